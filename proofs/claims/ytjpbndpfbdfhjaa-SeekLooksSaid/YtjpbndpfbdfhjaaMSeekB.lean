/-
  The program's runs (layer 10) in memory; entering an instruction.
  The program's runs (layer 10): clearing them, the one that is done, following a byte.
  The program's runs (layer 10): new ones; the first match of an arm.
  The program's Look (layer 10): arm by arm, each in the bytes in which a better match may end.
-/
import Derived.Test.YtjpbndpfbdfhjaaMRegPile
import Derived.Test.YtjpbndpfbdfhjaaMNfaPhas
import Derived.Test.YtjpbndpfbdfhjaaMSeekRuns
import Derived.ArgAppend
import Derived.Deep.Cut
import Derived.BigQuiet
import Derived.Laws.Tables
section
namespace Go.Proofs.Ytjpbndpfbdfhjaa.Seek
open Go.RowKit Go.Proofs.Ytjpbndpfbdfhjaa.Nfa Go.Proofs.Ytjpbndpfbdfhjaa.Ord
open Go.Proofs.Ytjpbndpfbdfhjaa.Reg (Sp RSpn sflat)
set_option linter.unusedVariables false
set_option linter.unusedSimpArgs false

/-- append of one cell where there is room, in a block of the call's own. -/
theorem wp_append_in {P : Program} {w : World} {o : Oper} {a : Act} {K : Act → World → Prop} {Q : Exit → Act → World → Prop} (s x : Operand) (t e : TypeId)
    (ho : o.op = .call { callee := .builtin .append, args := #[s, x], argTypes := #[t, t] }) (hu : P.underlying t = some (.slice e)) (hi : (P.info? e).map (·.size) = some 1)
    (q m c : Nat) (cs : List Value) (hs : a.eval s = .slice (some ⟨q, 0, none⟩) m c) (hq : Cel w q e cs) (hl : cs.length = c) (hm : m < c)
    (b d : Nat) (v : Value) (hx : a.eval x = .slice (some ⟨b, 0, none⟩) 1 d) (hv : w.cell? ⟨b, 0, none⟩ = some v) (h1 : v.oneCell' = true)
    (h : K (a.put o.dst (.slice (some ⟨q, 0, none⟩) (m + 1) c)) (w.setCell ⟨q, m, none⟩ v)) : o.wp P a w K Q := by
  cases hp : P.info? e with
  | none => rw [hp] at hi; cases hi
  | some i =>
    rw [hp] at hi
    have hsz : i.size = 1 := by simpa using hi
    have hrun := run_append_room_cells (P := P) w t o.type e i hu hp q 0 m c ⟨b, 0, none⟩ 1 d [v] (by rw [hsz]; rfl) (by
      intro j u hj
      match j, hj with
      | 0, hj => cases hj; exact hv
      | j + 1, hj => simp at hj) (by intro u hu; rw [List.mem_singleton.1 hu]; exact h1) (by omega) (by
      intro j hj
      have : j = 0 := by simp at hj; omega
      subst this
      rw [hsz, show 0 + m * 1 + 0 = m by omega, hq.cell m, List.getElem?_eq_getElem (by omega)]; rfl) (by
      intro j hj
      rw [hq.free])
    rw [hsz, show 0 + m * 1 = m by omega] at hrun
    unfold Oper.wp execOp
    simp only [ho, resolve, invoke, builtin, Sem.run_bind, Sem.run_pure, Result.andThen_ok, List.map_toArray, List.map_cons, List.map_nil, hs, hx, hrun]
    exact h

theorem wpList_append_in {P : Program} {w : World} {ops : Array Oper} {rest : List Oper} {o : Oper} {a : Act} {Q : Exit → Act → World → Prop} (hgd : o.guard = none) (s x : Operand) (t e : TypeId)
    (ho : o.op = .call { callee := .builtin .append, args := #[s, x], argTypes := #[t, t] }) (hu : P.underlying t = some (.slice e)) (hi : (P.info? e).map (·.size) = some 1)
    (q m c : Nat) (cs : List Value) (hs : a.eval s = .slice (some ⟨q, 0, none⟩) m c) (hq : Cel w q e cs) (hl : cs.length = c) (hm : m < c)
    (b d : Nat) (v : Value) (hx : a.eval x = .slice (some ⟨b, 0, none⟩) 1 d) (hv : w.cell? ⟨b, 0, none⟩ = some v) (h1 : v.oneCell' = true)
    (h : wpList P ops Q rest (a.put o.dst (.slice (some ⟨q, 0, none⟩) (m + 1) c)) (w.setCell ⟨q, m, none⟩ v)) : wpList P ops Q (o :: rest) a w :=
  wpList_plain hgd fun _ hK => wp_append_in s x t e ho hu hi q m c cs hs hq hl hm b d v hx hv h1 (hK _ _ h)

def iv (x : Int) : Value := .int .i64 x
/-- Runs in memory: in block g, the order of their instructions in block q. -/
structure Ru (V w : World) (g q : Nat) (A : Option Addr) (us : List Iv) (n pc : Nat) (S : List Int) (ol : List Nat) : Prop where
  run : Cel w g 113 (.slice A n pc :: (S.map iv ++ [.slice (some ⟨q, 0, none⟩) ol.length n]))
  row : ∃ cs, Cel w q 3 cs ∧ cs.length = n ∧ ∀ (k j : Nat), ol[k]? = some j → cs[k]? = some (iv (j : Int))
  len : us.length = n
  nle : n ≤ 200
  slen : S.length = 200
  cnt : ol.length + (live n S).count false ≤ n
  base : Below V.heap.size V w
  gb : V.heap.size ≤ g
  qb : V.heap.size ≤ q
section
variable {V w w' : World} {g q n pc : Nat} {A : Option Addr} {us : List Iv} {S : List Int} {ol : List Nat}
theorem Ru.ne (h : Ru V w g q A us n pc S ol) : g ≠ q := by
  obtain ⟨cs, hc, _⟩ := h.row
  exact Cel.ne h.run hc (by decide)
theorem Ru.arm (h : Ru V w g q A us n pc S ol) : w.cell? ⟨g, 0, none⟩ = some (.slice A n pc) := h.run.cell 0
theorem Ru.start (h : Ru V w g q A us n pc S ol) {a : Nat} {x : Int} (hx : S[a]? = some x) : w.cell? ⟨g, 1 + a, none⟩ = some (.int .i64 x) := by
  have hl := (List.getElem?_eq_some_iff.1 hx).1
  rw [h.run.cell, Nat.add_comm, List.getElem?_cons_succ, List.getElem?_append_left (by rw [List.length_map]; exact hl), List.getElem?_map, hx]; rfl
theorem Ru.rest (h : Ru V w g q A us n pc S ol) : w.cell? ⟨g, 201, none⟩ = some (.slice (some ⟨q, 0, none⟩) ol.length n) := by
  rw [h.run.cell, List.getElem?_cons_succ, List.getElem?_append_right (by rw [List.length_map, h.slen]; decide), List.length_map, h.slen]; rfl
theorem Ru.live_len (h : Ru V w g q A us n pc S ol) : (live n S).length = n := Seek.live_len (by rw [h.slen]; exact h.nle)
theorem Ru.frm (h : Ru V w g q A us n pc S ol) {l : List Nat} (hf : Frm l w w') (h1 : g ∉ l) (h2 : q ∉ l) (hl : ∀ k ∈ l, V.heap.size ≤ k) : Ru V w' g q A us n pc S ol := by
  obtain ⟨cs, hc, h3⟩ := h.row
  exact ⟨h.run.frm hf h1, ⟨cs, hc.frm hf h2, h3⟩, h.len, h.nle, h.slen, h.cnt, h.base.trans (hf.below h.base.size hl), h.gb, h.qb⟩
theorem Ru.below (h : Ru V w g q A us n pc S ol) (hb : Below w.heap.size w w') : Ru V w' g q A us n pc S ol := h.frm (l := []) (Frm.of_below hb) (by simp) (by simp) (by simp)
theorem Ru.ins (h : Ru V w g q A us n pc S ol) (hp : Pr9 V A us) : Pr9 w A us := Pr9.below' hp h.base
/-- The start is stored. -/
theorem Ru.put_start (h : Ru V w g q A us n pc S ol) {a : Nat} (t : Int) : Cel (w.setCell ⟨g, 1 + a, none⟩ (.int .i64 t)) g 113 (Value.slice A n pc :: (((S.map iv) ++ [Value.slice (some ⟨q, 0, none⟩) ol.length n]).set a (iv t))) := by
  have := h.run.set (1 + a) (.int .i64 t)
  rw [Nat.add_comm 1 a, List.set_cons_succ] at this
  rw [Nat.add_comm 1 a]
  exact this
theorem run_set {S : List Int} {x : Value} {a : Nat} (ha : a < S.length) (t : Int) : ((S.map iv) ++ [x]).set a (iv t) = (S.set a t).map iv ++ [x] := by
  rw [List.set_append_left _ _ (by rw [List.length_map]; exact ha), List.map_set]
theorem last_set {S : List Int} {y x z : Value} (hl : S.length = 200) : (z :: (S.map iv ++ [y])).set 201 x = z :: (S.map iv ++ [x]) := by
  rw [List.set_cons_succ, List.set_append_right _ _ (by rw [List.length_map, hl]; decide), List.length_map, hl]; rfl
/-- .. and the instruction is appended to the order. -/
theorem Ru.pushed (h : Ru V w g q A us n pc S ol) {a : Nat} {t : Int} (ha : a < n) (hm : (live n S)[a]? = some false) (ht : t ≠ -1) (hf : Frm [g, q] w w') (hc : Cel w' g 113 (.slice A n pc :: ((S.set a t).map iv ++ [.slice (some ⟨q, 0, none⟩) (ol.length + 1) n])))
    (hq : ∀ cs, Cel w q 3 cs → Cel w' q 3 (cs.set ol.length (iv (a : Int)))) : Ru V w' g q A us n pc (S.set a t) (ol ++ [a]) := by
  obtain ⟨cs, h1, h2, h3⟩ := h.row
  have hg := Grow.one (S := S) (ol := ol) (by rw [h.slen]; exact h.nle) ha hm ht
  have hcn := hg.cnt
  have hco := h.cnt
  have hpos : 0 < (live n S).count false := List.count_pos_iff.2 (List.mem_iff_getElem?.2 ⟨a, hm⟩)
  refine ⟨by rw [List.length_append]; exact hc, ⟨_, hq cs h1, by rw [List.length_set]; exact h2, fun k j hk => ?_⟩, h.len, h.nle, by rw [List.length_set]; exact h.slen, by omega, h.base.trans (hf.below h.base.size (by intro k hk; simp at hk; rcases hk with rfl | rfl; exact h.gb; exact h.qb)), h.gb, h.qb⟩
  by_cases e : k = ol.length
  · subst e
    rw [List.getElem?_append_right (Nat.le_refl _), Nat.sub_self] at hk
    cases hk
    rw [List.getElem?_set_self (by omega)]
  · have hkl := (List.getElem?_eq_some_iff.1 hk).1
    rw [List.length_append] at hkl
    simp only [List.length_cons, List.length_nil] at hkl
    rw [List.getElem?_append_left (by omega)] at hk
    rw [List.getElem?_set_ne (fun q => e q.symm)]
    exact h3 k j hk
theorem Ru.room (h : Ru V w g q A us n pc S ol) {a : Nat} (hm : (live n S)[a]? = some false) : ol.length < n := by
  have hpos : 0 < (live n S).count false := List.count_pos_iff.2 (List.mem_iff_getElem?.2 ⟨a, hm⟩)
  have := h.cnt
  omega
/-- What enter does. -/
def EtSays (V w : World) (g q : Nat) (A : Option Addr) (us : List Iv) (n pc : Nat) (S : List Int) (ol : List Nat) (pl t : Int) (e : Ending) (w' : World) : Prop :=
  e = .returned (.tuple #[]) ∧ ∃ S' ol', Come (us.map (·.i)) (live n S) (live n S') pl ∧ Grow n S S' ol ol' t ∧ Frm [g, q] w w' ∧ Ru V w' g q A us n pc S' ol'

set_option maxRecDepth 100000 in
set_option maxHeartbeats 1000000 in
theorem enter_out (h : Ru V w g q A us n pc S ol) (pl t : Int) (ho : pl < 0 ∨ (n : Int) ≤ pl) :
    Calls Try.prog 31 #[.pointer (some ⟨g, 0, none⟩), .int .i64 pl, .int .i64 t] w (EtSays V w g q A us n pc S ol pl t) := by
  have HC := Lib.hid (show EtSays V w g q A us n pc S ol pl t (.returned (.tuple #[])) w from ⟨rfl, S, ol, Come.out (by rw [List.length_map, h.len]; exact ho), Grow.refl _ _ _ _, Frm.refl _ _, h⟩)
  have k0 := h.arm
  clear h
  go_enter Try.func31, Try.ntmps31
  by_cases h0 : pl < 0
  · go_wp2_with fail
    exact bodyPost_ret (results_none rfl _ _ _) rfl HC.out
  · have h1 : (n : Int) ≤ pl := by omega
    go_wp2_with fail
    exact bodyPost_ret (results_none rfl _ _ _) rfl HC.out
set_option maxRecDepth 100000 in
set_option maxHeartbeats 1000000 in
theorem enter_met (h : Ru V w g q A us n pc S ol) (a : Nat) (t : Int) (ha : a < n) (hm : (live n S)[a]? = some true) :
    Calls Try.prog 31 #[.pointer (some ⟨g, 0, none⟩), .int .i64 (a : Int), .int .i64 t] w (EtSays V w g q A us n pc S ol a t) := by
  have HC := Lib.hid (show EtSays V w g q A us n pc S ol a t (.returned (.tuple #[])) w from ⟨rfl, S, ol, Come.met hm, Grow.refl _ _ _ _, Frm.refl _ _, h⟩)
  have k0 := h.arm
  obtain ⟨_, x, hx, hx1⟩ := live_at.1 hm
  have k1 := h.start hx
  have hb : (x != -1) = true := by simp [hx1]
  have h0 : decide ((a : Int) < 0) = false := by simp
  have h1 : decide (n ≤ a) = false := by simp; exact ha
  have hnn := h.nle
  have hal : a < 200 := by omega
  clear h hm hx
  go_enter Try.func31, Try.ntmps31
  go_wp2_with fail
  exact bodyPost_ret (results_none rfl _ _ _) rfl HC.out

theorem infoIntS : (Try.prog.info? 3).map (·.size) = some 1 := by kernel_rfl
/-- The worlds of a push: the start is stored, the instruction is laid out, appended, and the order's slice is stored. -/
def pw1 (w : World) (g a t : Nat) : World := w.setCell ⟨g, 1 + a, none⟩ (.int .i64 (t : Int))
def pw2 (w : World) (g a t : Nat) : World := (pw1 w g a t).alloc (.cells #[.int .i64 (a : Int)] 3)
def pw3 (w : World) (g q m a t : Nat) : World := (pw2 w g a t).setCell ⟨q, m, none⟩ (.int .i64 (a : Int))
def pw4 (w : World) (g q m n a t : Nat) : World := (pw3 w g q m a t).setCell ⟨g, 201, none⟩ (.slice (some ⟨q, 0, none⟩) (m + 1) n)
theorem push_facts (h : Ru V w g q A us n pc S ol) (a t : Nat) (ha : a < n) (hm : (live n S)[a]? = some false) :
    ∃ cs, Cel (pw2 w g a t) q 3 cs ∧ cs.length = n ∧ ol.length < n ∧ (pw2 w g a t).cell? ⟨w.heap.size, 0, none⟩ = some (.int .i64 (a : Int)) ∧ (pw1 w g a t).cell? ⟨g, 201, none⟩ = some (.slice (some ⟨q, 0, none⟩) ol.length n) ∧ (pw3 w g q ol.length a t).frozen? ⟨g, 201, none⟩ = false ∧ (pw3 w g q ol.length a t).cell? ⟨g, 201, none⟩ = some (.slice (some ⟨q, 0, none⟩) ol.length n) ∧ w.frozen? ⟨g, 1 + a, none⟩ = false ∧
      Frm [g, q] w (pw4 w g q ol.length n a t) ∧ Ru V (pw4 w g q ol.length n a t) g q A us n pc (S.set a (t : Int)) (ol ++ [a]) ∧ Grow n S (S.set a (t : Int)) ol (ol ++ [a]) (t : Int) := by
  obtain ⟨cs, hcs, hcl, _⟩ := h.row
  have hnn := h.nle
  have hgq := h.ne
  have hsl := h.slen
  have hs1 : (pw1 w g a t).heap.size = w.heap.size := by simp [pw1, World.setCell]
  have c1 := h.put_start (a := a) (t : Int)
  rw [run_set (by omega)] at c1
  have c1 : Cel (pw1 w g a t) g 113 (Value.slice A n pc :: ((S.set a (t : Int)).map iv ++ [Value.slice (some ⟨q, 0, none⟩) ol.length n])) := c1
  have c2 := c1.alloc (.cells #[.int .i64 (a : Int)] 3)
  have c3 := c2.far (p := ⟨q, ol.length, none⟩) hgq (.int .i64 (a : Int))
  have c4 := c3.set 201 (.slice (some ⟨q, 0, none⟩) (ol.length + 1) n)
  rw [last_set (by rw [List.length_set]; exact hsl)] at c4
  have q2 : ∀ cs, Cel w q 3 cs → Cel (pw2 w g a t) q 3 cs := fun cs hcs => (hcs.far (p := ⟨g, 1 + a, none⟩) (fun e => hgq e.symm) (.int .i64 (t : Int))).alloc _
  have q3 : ∀ cs, Cel w q 3 cs → Cel (pw4 w g q ol.length n a t) q 3 (cs.set ol.length (iv (a : Int))) := fun cs hcs => ((q2 cs hcs).set ol.length (.int .i64 (a : Int))).far (p := ⟨g, 201, none⟩) (fun e => hgq e.symm) _
  have v2 := Cel.new (pw1 w g a t) 3 [.int .i64 (a : Int)]
  rw [hs1] at v2
  have hf : Frm [g, q] w (pw4 w g q ol.length n a t) := ((((Frm.refl _ _).set (by simp) _).alloc _).set (by simp) _).set (by simp) _
  have K : ∀ {W : World}, Cel W g 113 (Value.slice A n pc :: ((S.set a (t : Int)).map iv ++ [Value.slice (some ⟨q, 0, none⟩) ol.length n])) → W.cell? ⟨g, 201, none⟩ = some (.slice (some ⟨q, 0, none⟩) ol.length n) := fun hc => by
    rw [hc.cell, List.getElem?_cons_succ, List.getElem?_append_right (by rw [List.length_map, List.length_set, hsl]; decide), List.length_map, List.length_set, hsl]; rfl
  refine ⟨cs, q2 cs hcs, hcl, h.room hm, v2.cell 0, K c1, c3.free 201, K c3, h.run.free _, hf, h.pushed ha hm (by omega) hf c4 q3, Grow.one (by omega) ha hm (by omega)⟩

set_option maxRecDepth 100000 in
set_option maxHeartbeats 1000000 in
theorem enter_one (h : Ru V w g q A us n pc S ol) (hp : Pr9 V A us) (a t : Nat) (ha : a < n) (hm : (live n S)[a]? = some false) (u : Iv) (hu : us[a]? = some u) (hk2 : u.i.kind ≠ 2) (hk3 : u.i.kind ≠ 3) :
    Calls Try.prog 31 #[.pointer (some ⟨g, 0, none⟩), .int .i64 (a : Int), .int .i64 (t : Int)] w (EtSays V w g q A us n pc S ol a t) := by
  have k0 := h.arm
  have hnn := h.nle
  have hal : a < 200 := by omega
  have k1 := h.start (show S[a]? = some (-1) from live_no (by rw [h.slen]; exact hnn) ha (by rw [hm]; simp))
  have hgq := h.ne
  obtain ⟨cs, q2, hcl, hro, v2, k3, k4, k5, k2, hf, hr, hg⟩ := push_facts h a t ha hm
  have j0 := hr.arm
  obtain ⟨ad, hA, i0, i1, i2, i3, i4⟩ := cz_five (hr.ins hp).ry hu
  have hsz : (pw4 w g q ol.length n a t).heap.size = w.heap.size + 1 := by simp [pw4, pw3, pw2, pw1, World.setCell]
  have hv := Cel.new (pw4 w g q ol.length n a t) 39 [.int .i64 u.i.kind, .int .i64 u.i.x, .int .i64 u.i.y, .bool u.i.neg, .slice u.A u.i.sp.length u.c]
  have HR := Lib.hid (hr.below ((Below.refl _ _).alloc (Nat.le_refl _) (.cells #[.int .i64 u.i.kind, .int .i64 u.i.x, .int .i64 u.i.y, .bool u.i.neg, .slice u.A u.i.sp.length u.c] 39)))
  have HF := Lib.hid (hf.alloc (.cells #[.int .i64 u.i.kind, .int .i64 u.i.x, .int .i64 u.i.y, .bool u.i.neg, .slice u.A u.i.sp.length u.c] 39))
  have HG := Lib.hid hg
  have HC := Lib.hid (show Come (us.map (·.i)) (live n S) (live n (S.set a (t : Int))) (a : Int) by
    rw [live_set (by omega)]
    exact Come.one (by rw [h.live_len, List.length_map, h.len]) (by rw [List.getElem?_map, hu]; rfl) hk2 hk3)
  have Q2 := Lib.hid q2
  rw [hsz] at hv
  have w0 := hv.cell 0
  have hrl := hr.live_len
  clear h hr hf hg hv hm hu q2 hrl hsz
  unfold pw4 pw3 pw2 pw1 at *
  subst hA
  obtain ⟨⟨kd, px, py, ng, l⟩, uA, uc⟩ := u
  dsimp only at *
  have z2 : (kd == 2) = false := by simp [hk2]
  have z3 : (kd == 3) = false := by simp [hk3]
  have d0 : decide ((a : Int) < 0) = false := by simp
  have d1 : decide (n ≤ a) = false := by simp; exact ha
  go_enter Try.func31, Try.ntmps31
  go_wp2_with ((at_builtin; refine wpList_append_in rfl _ _ 101 3 rfl Try.underlying101 infoIntS q ol.length n cs rfl Q2.out hcl hro w.heap.size 1 (.int .i64 (a : Int)) rfl v2 rfl ?_))
  exact bodyPost_end (results_none rfl _ _ _) rfl ⟨rfl, _, _, HC.out, HG.out, HF.out, HR.out⟩
set_option maxRecDepth 100000 in
set_option maxHeartbeats 1000000 in
theorem enter_go (h : Ru V w g q A us n pc S ol) (hp : Pr9 V A us) (a t : Nat) (ha : a < n) (hm : (live n S)[a]? = some false) (u : Iv) (hu : us[a]? = some u) (hk3 : u.i.kind = 3) (fit : (-9223372036854775808 ≤ u.i.x ∧ u.i.x < 9223372036854775808) ∧ -9223372036854775808 ≤ u.i.y ∧ u.i.y < 9223372036854775808)
    (con : ∀ (W : World) (S1 : List Int) (ol1 : List Nat) (z : Int), Ru V W g q A us n pc S1 ol1 → (live n S1).count false < (live n S).count false → Calls Try.prog 31 #[.pointer (some ⟨g, 0, none⟩), .int .i64 z, .int .i64 (t : Int)] W (EtSays V W g q A us n pc S1 ol1 z t)) :
    Calls Try.prog 31 #[.pointer (some ⟨g, 0, none⟩), .int .i64 (a : Int), .int .i64 (t : Int)] w (EtSays V w g q A us n pc S ol a t) := by
  have k0 := h.arm
  have hnn := h.nle
  have hal : a < 200 := by omega
  have k1 := h.start (show S[a]? = some (-1) from live_no (by rw [h.slen]; exact hnn) ha (by rw [hm]; simp))
  have hgq := h.ne
  obtain ⟨cs, q2, hcl, hro, v2, k3, k4, k5, k2, hf, hr, hg⟩ := push_facts h a t ha hm
  have j0 := hr.arm
  obtain ⟨ad, hA, i0, i1, i2, i3, i4⟩ := cz_five (hr.ins hp).ry hu
  have hsz : (pw4 w g q ol.length n a t).heap.size = w.heap.size + 1 := by simp [pw4, pw3, pw2, pw1, World.setCell]
  have hv := Cel.new (pw4 w g q ol.length n a t) 39 [.int .i64 u.i.kind, .int .i64 u.i.x, .int .i64 u.i.y, .bool u.i.neg, .slice u.A u.i.sp.length u.c]
  have HR := Lib.hid (hr.below ((Below.refl _ _).alloc (Nat.le_refl _) (.cells #[.int .i64 u.i.kind, .int .i64 u.i.x, .int .i64 u.i.y, .bool u.i.neg, .slice u.A u.i.sp.length u.c] 39)))
  have HF := Lib.hid (hf.alloc (.cells #[.int .i64 u.i.kind, .int .i64 u.i.x, .int .i64 u.i.y, .bool u.i.neg, .slice u.A u.i.sp.length u.c] 39))
  have HG := Lib.hid hg
  have hcl2 : live n (S.set a (t : Int)) = (live n S).set a true := live_set (by omega)
  have hcnt : (live n (S.set a (t : Int))).count false < (live n S).count false := by
    have hl : a < (live n S).length := by rw [h.live_len]; exact ha
    rw [hcl2]
    exact cnt_lt _ _ a (by simp) (fun j hj => (set_true hl).2 (.inr hj)) hm ((set_true hl).2 (.inl rfl))
  have hun : (us.map (·.i)).length = n := by rw [List.length_map, h.len]
  have hw := wrap_pl (by omega) ha hun fit.1
  have HD := Lib.hid (show (us.map (·.i))[a]? = some u.i by rw [List.getElem?_map, hu]; rfl)
  have HL := Lib.hid (show (live n S).length = (us.map (·.i)).length by rw [h.live_len, hun])
  have C1 := Lib.hid (con _ _ _ (wrap64 ((a : Int) + u.i.x)) HR.out hcnt)
  have HCL := Lib.hid hcl2
  have hgn : g ≠ w.heap.size + 1 := by have := h.run.lt; omega
  have hqn : q ≠ w.heap.size + 1 := by obtain ⟨_, hc, _⟩ := h.row; have := hc.lt; omega
  have HGN := Lib.hid hgn
  have HQN := Lib.hid hqn
  have Q2 := Lib.hid q2
  rw [hsz] at hv
  have w0 := hv.cell 0
  have w1 := hv.cell 1
  have HV := Lib.hid hv
  have hrl := hr.live_len
  clear h hr hf hg hv hm hu q2 hrl hsz con hcl2 hun hgn hqn hcnt
  unfold pw4 pw3 pw2 pw1 at *
  subst hA
  obtain ⟨⟨kd, px, py, ng, l⟩, uA, uc⟩ := u
  dsimp only at *
  subst hk3
  have d0 : decide ((a : Int) < 0) = false := by simp
  have d1 : decide (n ≤ a) = false := by simp; exact ha
  go_enter Try.func31, Try.ntmps31
  go_wp2_with ((at_builtin; refine wpList_append_in rfl _ _ 101 3 rfl Try.underlying101 infoIntS q ol.length n cs rfl Q2.out hcl hro w.heap.size 1 (.int .i64 (a : Int)) rfl v2 rfl ?_))
  refine C1.out.mono ?_
  clear C1
  rintro e wa ⟨rfl, S1, ol1, hc, hg1, hf1, hr1⟩
  have HC := Lib.hid hc
  have HG1 := Lib.hid hg1
  have HF1 := Lib.hid hf1
  have HR1 := Lib.hid hr1
  clear hc hg1 hf1 hr1
  go_wp2_with fail
  exact bodyPost_end (results_none rfl _ _ _) rfl ⟨rfl, S1, ol1, Come.go HL.out HD.out rfl (by rw [← HCL.out]; exact HC.out.wrap hw), HG.out.trans HG1.out, HF.out.trans HF1.out, HR1.out⟩
set_option maxRecDepth 100000 in
set_option maxHeartbeats 1000000 in
theorem enter_two (h : Ru V w g q A us n pc S ol) (hp : Pr9 V A us) (a t : Nat) (ha : a < n) (hm : (live n S)[a]? = some false) (u : Iv) (hu : us[a]? = some u) (hk2 : u.i.kind = 2) (fit : (-9223372036854775808 ≤ u.i.x ∧ u.i.x < 9223372036854775808) ∧ -9223372036854775808 ≤ u.i.y ∧ u.i.y < 9223372036854775808)
    (con : ∀ (W : World) (S1 : List Int) (ol1 : List Nat) (z : Int), Ru V W g q A us n pc S1 ol1 → (live n S1).count false < (live n S).count false → Calls Try.prog 31 #[.pointer (some ⟨g, 0, none⟩), .int .i64 z, .int .i64 (t : Int)] W (EtSays V W g q A us n pc S1 ol1 z t)) :
    Calls Try.prog 31 #[.pointer (some ⟨g, 0, none⟩), .int .i64 (a : Int), .int .i64 (t : Int)] w (EtSays V w g q A us n pc S ol a t) := by
  have k0 := h.arm
  have hnn := h.nle
  have hal : a < 200 := by omega
  have k1 := h.start (show S[a]? = some (-1) from live_no (by rw [h.slen]; exact hnn) ha (by rw [hm]; simp))
  have hgq := h.ne
  obtain ⟨cs, q2, hcl, hro, v2, k3, k4, k5, k2, hf, hr, hg⟩ := push_facts h a t ha hm
  have j0 := hr.arm
  obtain ⟨ad, hA, i0, i1, i2, i3, i4⟩ := cz_five (hr.ins hp).ry hu
  have hsz : (pw4 w g q ol.length n a t).heap.size = w.heap.size + 1 := by simp [pw4, pw3, pw2, pw1, World.setCell]
  have hv := Cel.new (pw4 w g q ol.length n a t) 39 [.int .i64 u.i.kind, .int .i64 u.i.x, .int .i64 u.i.y, .bool u.i.neg, .slice u.A u.i.sp.length u.c]
  have HR := Lib.hid (hr.below ((Below.refl _ _).alloc (Nat.le_refl _) (.cells #[.int .i64 u.i.kind, .int .i64 u.i.x, .int .i64 u.i.y, .bool u.i.neg, .slice u.A u.i.sp.length u.c] 39)))
  have HF := Lib.hid (hf.alloc (.cells #[.int .i64 u.i.kind, .int .i64 u.i.x, .int .i64 u.i.y, .bool u.i.neg, .slice u.A u.i.sp.length u.c] 39))
  have HG := Lib.hid hg
  have hcl2 : live n (S.set a (t : Int)) = (live n S).set a true := live_set (by omega)
  have hcnt : (live n (S.set a (t : Int))).count false < (live n S).count false := by
    have hl : a < (live n S).length := by rw [h.live_len]; exact ha
    rw [hcl2]
    exact cnt_lt _ _ a (by simp) (fun j hj => (set_true hl).2 (.inr hj)) hm ((set_true hl).2 (.inl rfl))
  have hun : (us.map (·.i)).length = n := by rw [List.length_map, h.len]
  have hw := wrap_pl (by omega) ha hun fit.1
  have hw2 := wrap_pl (by omega) ha hun fit.2
  have HD := Lib.hid (show (us.map (·.i))[a]? = some u.i by rw [List.getElem?_map, hu]; rfl)
  have HL := Lib.hid (show (live n S).length = (us.map (·.i)).length by rw [h.live_len, hun])
  have C1 := Lib.hid (con _ _ _ (wrap64 ((a : Int) + u.i.x)) HR.out hcnt)
  have CON := Lib.hid con
  have HCL := Lib.hid hcl2
  have hgn : g ≠ w.heap.size + 1 := by have := h.run.lt; omega
  have hqn : q ≠ w.heap.size + 1 := by obtain ⟨_, hc, _⟩ := h.row; have := hc.lt; omega
  have HGN := Lib.hid hgn
  have HQN := Lib.hid hqn
  have Q2 := Lib.hid q2
  rw [hsz] at hv
  have w0 := hv.cell 0
  have w1 := hv.cell 1
  have HV := Lib.hid hv
  have hrl := hr.live_len
  clear h hr hf hg hv hm hu q2 hrl hsz con hcl2 hun hgn hqn
  unfold pw4 pw3 pw2 pw1 at *
  subst hA
  obtain ⟨⟨kd, px, py, ng, l⟩, uA, uc⟩ := u
  dsimp only at *
  subst hk2
  have d0 : decide ((a : Int) < 0) = false := by simp
  have d1 : decide (n ≤ a) = false := by simp; exact ha
  go_enter Try.func31, Try.ntmps31
  go_wp2_with ((at_builtin; refine wpList_append_in rfl _ _ 101 3 rfl Try.underlying101 infoIntS q ol.length n cs rfl Q2.out hcl hro w.heap.size 1 (.int .i64 (a : Int)) rfl v2 rfl ?_))
  refine C1.out.mono ?_
  clear C1
  rintro e wa ⟨rfl, S1, ol1, hc, hg1, hf1, hr1⟩
  have hva := HV.out.frm hf1 (by simp; exact ⟨fun e => HGN.out e.symm, fun e => HQN.out e.symm⟩)
  have v0 := hva.cell 0
  have v2 := hva.cell 2
  have C2 := Lib.hid (CON.out _ _ _ (wrap64 ((a : Int) + py)) hr1 (Nat.lt_of_le_of_lt (cnt_le _ _ hc.len hc.mono) hcnt))
  have HC := Lib.hid hc
  have HG1 := Lib.hid hg1
  have HF1 := Lib.hid hf1
  clear hc hg1 hf1 hr1 hva CON hcnt
  go_wp2_with fail
  refine C2.out.mono ?_
  clear C2
  rintro e wb ⟨rfl, S2, ol2, hc2, hg2, hf2, hr2⟩
  have HC2 := Lib.hid hc2
  have HG2 := Lib.hid hg2
  have HF2 := Lib.hid hf2
  have HR2 := Lib.hid hr2
  clear hc2 hg2 hf2 hr2
  go_wp2_with fail
  exact bodyPost_end (results_none rfl _ _ _) rfl ⟨rfl, S2, ol2, Come.two HL.out HD.out rfl (by rw [← HCL.out]; exact HC.out.wrap hw) (HC2.out.wrap hw2), (HG.out.trans HG1.out).trans HG2.out, (HF.out.trans HF1.out).trans HF2.out, HR2.out⟩
/-- Entering an instruction, by how many have no run. -/
theorem enter_all (hp : Pr9 V A us) (fit : ∀ u ∈ us, (-9223372036854775808 ≤ u.i.x ∧ u.i.x < 9223372036854775808) ∧ -9223372036854775808 ≤ u.i.y ∧ u.i.y < 9223372036854775808) (t : Nat) : ∀ (k : Nat) (w : World) (S : List Int) (ol : List Nat) (pl : Int), (live n S).count false < k → Ru V w g q A us n pc S ol →
    Calls Try.prog 31 #[.pointer (some ⟨g, 0, none⟩), .int .i64 pl, .int .i64 (t : Int)] w (EtSays V w g q A us n pc S ol pl t)
  | 0, _, _, _, _, hk, _ => absurd hk (Nat.not_lt_zero _)
  | k + 1, w, S, ol, pl, hk, h => by
    by_cases ho : pl < 0 ∨ (n : Int) ≤ pl
    · exact enter_out h pl t ho
    · obtain ⟨a, rfl⟩ : ∃ a : Nat, pl = (a : Int) := ⟨pl.toNat, by omega⟩
      have ha : a < n := by omega
      have hml := h.live_len
      obtain ⟨b, hb⟩ : ∃ b, (live n S)[a]? = some b := ⟨_, List.getElem?_eq_getElem (by omega)⟩
      cases b
      · obtain ⟨u, hu⟩ : ∃ u, us[a]? = some u := ⟨_, List.getElem?_eq_getElem (by rw [h.len]; exact ha)⟩
        have fu := fit u (List.mem_of_getElem? hu)
        have con : ∀ (W : World) (S1 : List Int) (ol1 : List Nat) (z : Int), Ru V W g q A us n pc S1 ol1 → (live n S1).count false < (live n S).count false → Calls Try.prog 31 #[.pointer (some ⟨g, 0, none⟩), .int .i64 z, .int .i64 (t : Int)] W (EtSays V W g q A us n pc S1 ol1 z t) :=
          fun W S1 ol1 z hW hc => enter_all hp fit t k W S1 ol1 z (by omega) hW
        by_cases h2 : u.i.kind = 2
        · exact enter_two h hp a t ha hb u hu h2 fu con
        · by_cases h3 : u.i.kind = 3
          · exact enter_go h hp a t ha hb u hu h3 fu con
          · exact enter_one h hp a t ha hb u hu h2 h3
      · exact enter_met h a t ha hb
theorem enter_ (hp : Pr9 V A us) (fit : ∀ u ∈ us, (-9223372036854775808 ≤ u.i.x ∧ u.i.x < 9223372036854775808) ∧ -9223372036854775808 ≤ u.i.y ∧ u.i.y < 9223372036854775808) (h : Ru V w g q A us n pc S ol) (pl : Int) (t : Nat) :
    Calls Try.prog 31 #[.pointer (some ⟨g, 0, none⟩), .int .i64 pl, .int .i64 (t : Int)] w (EtSays V w g q A us n pc S ol pl t) := enter_all hp fit t _ w S ol pl (Nat.lt_succ_self _) h
end
end Go.Proofs.Ytjpbndpfbdfhjaa.Seek
end

section
namespace Go.Proofs.Ytjpbndpfbdfhjaa.Seek
open Go.RowKit Go.Proofs.Ytjpbndpfbdfhjaa.Nfa Go.Proofs.Ytjpbndpfbdfhjaa.Ord
open Go.Proofs.Ytjpbndpfbdfhjaa.Reg (Sp RSpn sflat)
set_option linter.unusedVariables false
set_option linter.unusedSimpArgs false

/-- Starts that are struck. -/
def clr (S : List Int) (l : List Nat) : List Int := l.foldl (fun S i => S.set i (-1)) S
theorem clr_len : ∀ (l : List Nat) (S : List Int), (clr S l).length = S.length
  | [], _ => rfl
  | i :: l, S => by show (clr (S.set i (-1)) l).length = _; rw [clr_len l]; simp
theorem clr_snoc (S : List Int) (l : List Nat) (i : Nat) : clr S (l ++ [i]) = (clr S l).set i (-1) := by unfold clr; rw [List.foldl_append]; rfl
theorem clr_keep : ∀ (l : List Nat) (S : List Int) (j : Nat), S[j]? = some (-1) → (clr S l)[j]? = some (-1)
  | [], _, _, h => h
  | i :: l, S, j, h => by
    show (clr (S.set i (-1)) l)[j]? = _
    apply clr_keep l
    by_cases e : i = j
    · subst e
      rw [List.getElem?_set_self (List.getElem?_eq_some_iff.1 h).1]
    · rw [List.getElem?_set_ne e]; exact h
theorem clr_mem : ∀ (l : List Nat) (S : List Int) (j : Nat), j ∈ l → j < S.length → (clr S l)[j]? = some (-1)
  | [], _, _, h, _ => by simp at h
  | i :: l, S, j, h, hl => by
    show (clr (S.set i (-1)) l)[j]? = _
    by_cases e : i = j
    · subst e
      exact clr_keep l _ _ (List.getElem?_set_self hl)
    · rcases List.mem_cons.1 h with h | h
      · exact absurd h.symm e
      · exact clr_mem l _ j h (by simpa using hl)
theorem take_snocN (l : List Nat) (k i : Nat) (h : l[k]? = some i) : l.take (k + 1) = l.take k ++ [i] := by rw [List.take_add_one, h]; rfl
section
variable {V w w' : World} {g q g2 q2 n pc : Nat} {A : Option Addr} {us : List Iv} {S S0 : List Int} {ol ol0 : List Nat} {Q Q0 : Nat → Nat → Prop} {p : List In}
/-- Cleared, no instruction has a run. -/
theorem Ld.cleared (h : Ld p S ol Q) : Ld p (clr S ol) [] (fun _ _ => False) := by
  refine Ld.nil_ (by rw [clr_len]; exact h.slen) fun j z hj hz => ?_
  by_cases e : j ∈ ol
  · rw [clr_mem ol S j e (Nat.lt_of_lt_of_le hj h.slen)] at hz
    injection hz with hz
    exact hz.symm
  · have := live_no h.slen hj (fun q => e ((h.mem j).2 q))
    rw [clr_keep ol S j this] at hz
    injection hz with hz
    exact hz.symm
set_option maxRecDepth 100000 in
set_option maxHeartbeats 1000000 in
theorem clear_ (h : Ru V w g q A us n pc S ol) (hmem : ∀ j ∈ ol, j < n) :
    Calls Try.prog 42 #[.pointer (some ⟨g, 0, none⟩)] w fun e w' => e = .returned (.tuple #[]) ∧ Frm [g] w w' ∧ Ru V w' g q A us n pc (clr S ol) [] := by
  have k3 := h.rest
  have hol : ol.length ≤ n := by have := h.cnt; omega
  have hnn := h.nle
  have H := Lib.hid h
  have HM := Lib.hid hmem
  have hgq := h.ne
  obtain ⟨m, hm⟩ : ∃ m, m = ol.length := ⟨_, rfl⟩
  rw [← hm] at k3 hol
  have HOL := Lib.hid hm
  clear h hmem hm
  go_enter Try.func42, Try.ntmps42
  go_wp2_with fail
  go_loopw [9] (fun v9 wr => ∃ (k : Nat), k ≤ m ∧ v9 = .int .i64 (k : Int) ∧ Cel wr g 113 (Value.slice A n pc :: ((clr S (ol.take k)).map iv ++ [Value.slice (some ⟨q, 0, none⟩) m n])) ∧ Frm [g] w wr) (fun v9 _ => m - (intOf v9).toNat)
  case atStart => exact ⟨0, Nat.zero_le _, rfl, by rw [HOL.out]; exact H.out.run, Frm.refl _ _⟩
  case round =>
    obtain ⟨k, hk, rfl, hc, hf⟩ := hrel
    have HC := Lib.hid hc
    have HF := Lib.hid hf
    clear hc hf
    have hcl : (clr S (ol.take k)).length = 200 := by rw [clr_len]; exact H.out.slen
    rcases Nat.lt_or_ge k m with hlt | hge
    · obtain ⟨i, hi⟩ : ∃ i, ol[k]? = some i := ⟨_, List.getElem?_eq_getElem (by rw [← HOL.out]; exact hlt)⟩
      have hin := HM.out i (List.mem_of_getElem? hi)
      obtain ⟨cs, hcs, _, hcv⟩ := H.out.row
      have k5 := (hcs.frm HF.out (by simp; exact fun e => hgq e.symm)).cell k
      rw [hcv k i hi] at k5
      replace k5 : wr.cell? ⟨q, k, none⟩ = some (.int .i64 (i : Int)) := k5
      have k6 := HC.out.free (1 + i)
      have k7 : wr.cell? ⟨g, 1 + i, none⟩ = some (iv ((clr S (ol.take k))[i]'(by omega))) := by
        rw [HC.out.cell, Nat.add_comm, List.getElem?_cons_succ, List.getElem?_append_left (by rw [List.length_map]; omega), List.getElem?_map, List.getElem?_eq_getElem (by omega)]; rfl
      have hil : i < 200 := by omega
      have HC2 := Lib.hid (show Cel (wr.setCell ⟨g, 1 + i, none⟩ (.int .i64 (-1))) g 113 (Value.slice A n pc :: ((clr S (ol.take (k + 1))).map iv ++ [Value.slice (some ⟨q, 0, none⟩) m n])) by
        have := HC.out.set (1 + i) (.int .i64 (-1))
        rw [Nat.add_comm 1 i, List.set_cons_succ, show Value.int .i64 (-1) = iv (-1) from rfl, run_set (by omega), ← clr_snoc, ← take_snocN ol k i hi, Nat.add_comm i 1] at this
        exact this)
      have HF2 := Lib.hid (show Frm [g] w (wr.setCell ⟨g, 1 + i, none⟩ (.int .i64 (-1))) from HF.out.set (by simp) _)
      clear hi hcs hcv
      go_wp2_with fail
      exact ⟨⟨k + 1, by omega, by rw [show ((k + 1 : Nat) : Int) = (k : Int) + 1 by omega], HC2.out, HF2.out⟩, by simp [intOf]; omega⟩
    · obtain rfl : k = m := by omega
      have k6 : wr.cell? ⟨g, 201, none⟩ = some (.slice (some ⟨q, 0, none⟩) k n) := by
        rw [HC.out.cell, List.getElem?_cons_succ, List.getElem?_append_right (by rw [List.length_map, hcl]; decide), List.length_map, hcl]; rfl
      have k7 := HC.out.free 201
      have HF2 := Lib.hid (show Frm [g] w (wr.setCell ⟨g, 201, none⟩ (.slice (some ⟨q, 0, none⟩) 0 n)) from HF.out.set (by simp) _)
      have HR := Lib.hid (show Ru V (wr.setCell ⟨g, 201, none⟩ (.slice (some ⟨q, 0, none⟩) 0 n)) g q A us n pc (clr S ol) [] by
        have hc := HC.out.set 201 (.slice (some ⟨q, 0, none⟩) 0 n)
        rw [last_set hcl, List.take_of_length_le (by rw [← HOL.out]; exact Nat.le_refl _)] at hc
        obtain ⟨cs, hcs, hcl2, _⟩ := H.out.row
        refine ⟨hc, ⟨cs, hcs.frm HF2.out (by simp; exact fun e => hgq e.symm), hcl2, fun k j hk => by simp at hk⟩, H.out.len, H.out.nle, by rw [clr_len]; exact H.out.slen, ?_, H.out.base.trans (HF2.out.below H.out.base.size (by intro k hk; simp at hk; subst hk; exact H.out.gb)), H.out.gb, H.out.qb⟩
        have hl : (live n (clr S ol)).length = n := live_len (by rw [clr_len, H.out.slen]; exact hnn)
        have := List.count_le_length (a := false) (l := live n (clr S ol))
        simp only [List.length_nil]
        omega)
      go_wp2_with fail
      exact bodyPost_end (results_none rfl _ _ _) rfl ⟨rfl, HF2.out, HR.out⟩

set_option maxRecDepth 100000 in
set_option maxHeartbeats 1000000 in
theorem pdone (h : Ru V w g q A us n pc S ol) (hp : Pr9 V A us) (hld : Ld (us.map (·.i)) S ol Q) :
    Calls Try.prog 32 #[.pointer (some ⟨g, 0, none⟩)] w fun e w' => w = w' ∧ ∃ (s : Int) (ok : Bool), e = .returned (.tuple #[.int .i64 s, .bool ok]) ∧ DnTells (us.map (·.i)) Q s ok := by
  have k0 := h.arm
  have k3 := h.rest
  have hol : ol.length ≤ n := by have := h.cnt; omega
  have hnn := h.nle
  have H := Lib.hid h
  have HP := Lib.hid hp
  have HLD := Lib.hid hld
  obtain ⟨m, hm⟩ : ∃ m, m = ol.length := ⟨_, rfl⟩
  rw [← hm] at k3 hol
  have HOL := Lib.hid hm
  clear h hp hld hm
  go_enter Try.func32, Try.ntmps32
  go_wp2_with fail
  go_loopw [11] (fun v11 wr => ∃ (k : Nat), k ≤ m ∧ v11 = .int .i64 (k : Int) ∧ wr = w ∧ ∀ (x : Nat) (i : Nat) y, x < k → ol[x]? = some i → (us.map (·.i))[i]? = some y → y.kind ≠ 4) (fun v11 _ => m - (intOf v11).toNat)
  case atStart => exact ⟨0, Nat.zero_le _, rfl, rfl, fun x i y hx => absurd hx (Nat.not_lt_zero _)⟩
  case round =>
    obtain ⟨k, hk, rfl, rfl, hno⟩ := hrel
    have HNO := Lib.hid hno
    clear hno
    rcases Nat.lt_or_ge k m with hlt | hge
    · obtain ⟨i, hi⟩ : ∃ i, ol[k]? = some i := ⟨_, List.getElem?_eq_getElem (by rw [← HOL.out]; exact hlt)⟩
      obtain ⟨s, hs, _, _, hin⟩ := HLD.out.start (List.mem_of_getElem? hi)
      rw [List.length_map, H.out.len] at hin
      obtain ⟨u, hu⟩ : ∃ u, us[i]? = some u := ⟨_, List.getElem?_eq_getElem (by rw [H.out.len]; exact hin)⟩
      obtain ⟨ad, hA, i0, i1, i2, i3, i4⟩ := cz_five (H.out.ins HP.out).ry hu
      obtain ⟨cs, hcs, _, hcv⟩ := H.out.row
      have k5 := hcs.cell k
      rw [hcv k i hi] at k5
      replace k5 : wr.cell? ⟨q, k, none⟩ = some (.int .i64 (i : Int)) := k5
      have k6 := H.out.start hs
      have hil : i < 200 := by omega
      have hpi : (us.map (·.i))[i]? = some u.i := by rw [List.getElem?_map, hu]; rfl
      have HI := Lib.hid hi
      have HS := Lib.hid hs
      have HPI := Lib.hid hpi
      clear hi hs hu hcs hcv hpi
      subst hA
      by_cases h4 : u.i.kind = 4
      · have HT := Lib.hid (HLD.out.done_yes HI.out HPI.out h4 HS.out HNO.out)
        rw [h4] at i0
        go_wp2_with fail
        go_ret2
        exact ⟨rfl, _, _, rfl, HT.out⟩
      · have z4 : (u.i.kind == 4) = false := by simp [h4]
        go_wp2_with fail
        exact ⟨⟨k + 1, by omega, by rw [show ((k + 1 : Nat) : Int) = (k : Int) + 1 by omega], by trivial, fun x j y hx hj hy => by
          rcases Nat.lt_or_ge x k with q | q
          · exact HNO.out x j y q hj hy
          · obtain rfl : x = k := by omega
            have := HI.out
            rw [hj] at this
            cases this
            have := HPI.out
            rw [hy] at this
            cases this
            exact h4⟩, by simp [intOf]; omega⟩
    · obtain rfl : k = m := by omega
      have HT := Lib.hid (HLD.out.done_no (fun x i y hx hy => HNO.out x i y (by rw [HOL.out]; exact (List.getElem?_eq_some_iff.1 hx).1) hx hy))
      go_wp2_with fail
      go_ret2
      exact ⟨rfl, _, _, rfl, HT.out⟩

/-- What follow does. -/
def FoSays (V w : World) (g2 q2 : Nat) (A : Option Addr) (us : List Iv) (n pc : Nat) (Q : Nat → Nat → Prop) (c : BitVec 8) (e : Ending) (w' : World) : Prop :=
  e = .returned (.tuple #[]) ∧ ∃ S' ol', Ru V w' g2 q2 A us n pc S' ol' ∧ Ld (us.map (·.i)) S' ol' (fun s j => Take (us.map (·.i)) (Q s) c j) ∧ Frm [g2, q2] w w'
theorem Tak.of {us : List Iv} {c : BitVec 8} {i : Nat} {u : Iv} (hu : (us.map (·.i))[i]? = some u.i) : Tak (us.map (·.i)) c i ↔ u.i.kind = 1 ∧ has u.i c = true := by
  constructor
  · rintro ⟨x, hx, h1, h2⟩
    rw [hu] at hx
    cases hx
    exact ⟨h1, h2⟩
  · rintro ⟨h1, h2⟩
    exact ⟨u.i, hu, h1, h2⟩
set_option maxRecDepth 100000 in
set_option maxHeartbeats 2000000 in
theorem follow_ (h : Ru V w g q A us n pc S ol) (h2 : Ru V w g2 q2 A us n pc S0 ol0) (hg : g ≠ g2) (hq : q ≠ q2) (hp : Pr9 V A us) (fit : ∀ u ∈ us, (-9223372036854775808 ≤ u.i.x ∧ u.i.x < 9223372036854775808) ∧ -9223372036854775808 ≤ u.i.y ∧ u.i.y < 9223372036854775808)
    (hsp : ∀ u ∈ us, u.i.sp.length ≤ 1000) (hld : Ld (us.map (·.i)) S ol Q) (hld0 : Ld (us.map (·.i)) S0 ol0 Q0) (c : BitVec 8) :
    Calls Try.prog 33 #[.pointer (some ⟨g2, 0, none⟩), .pointer (some ⟨g, 0, none⟩), v8 c] w (FoSays V w g2 q2 A us n pc Q c) := by
  have con := clear_ h2 (fun j hj => by obtain ⟨_, _, _, _, q⟩ := hld0.start hj; rw [List.length_map, h2.len] at q; exact q)
  have hol : ol.length ≤ n := by have := h.cnt; omega
  have hnn := h.nle
  have hgq2 : g ≠ q2 := by obtain ⟨_, hc, _⟩ := h2.row; exact Cel.ne h.run hc (by decide)
  have hqg2 : q ≠ g2 := by obtain ⟨_, hc, _⟩ := h.row; exact Cel.ne hc h2.run (by decide)
  have HNE := Lib.hid (show g ∉ [g2, q2] ∧ q ∉ [g2, q2] by simp; exact ⟨⟨hg, hgq2⟩, hqg2, hq⟩)
  have H := Lib.hid h
  have HP := Lib.hid hp
  have HFIT := Lib.hid fit
  have HSP := Lib.hid hsp
  have HLD := Lib.hid hld
  have HLD0 := Lib.hid hld0.cleared
  have HGB := Lib.hid (show ∀ k ∈ [g2, q2], V.heap.size ≤ k by intro k hk; simp at hk; rcases hk with rfl | rfl; exact h2.gb; exact h2.qb)
  obtain ⟨m, hm⟩ : ∃ m, m = ol.length := ⟨_, rfl⟩
  rw [← hm] at hol
  have HOL := Lib.hid hm
  clear h h2 hp fit hsp hld hld0 hm hg hq hgq2 hqg2
  go_enter Try.func33, Try.ntmps33
  go_wp2_with fail
  refine con.mono ?_
  clear con
  rintro e w1 ⟨rfl, hf1, hr1⟩
  have HF1 := Lib.hid (show Frm [g2, q2] w w1 from hf1.mono (by intro k hk _; simp at hk; simp [hk]))
  have HR1 := Lib.hid hr1
  have k3 := (H.out.frm HF1.out HNE.out.1 HNE.out.2 HGB.out).rest
  rw [← HOL.out] at k3
  clear hf1 hr1
  go_wp2_with fail
  clear k3
  go_loopw [16] (fun v16 wr => ∃ (k : Nat) (S1 : List Int) (ol1 : List Nat), k ≤ m ∧ v16 = .int .i64 (k : Int) ∧ Ru V wr g2 q2 A us n pc S1 ol1 ∧ Ld (us.map (·.i)) S1 ol1 (Fol (us.map (·.i)) S ol c k) ∧ Frm [g2, q2] w wr) (fun v16 _ => m - (intOf v16).toNat)
  case atStart => exact ⟨0, _, _, Nat.zero_le _, rfl, HR1.out, HLD0.out.same (fun s j => (fol_zero c s j).symm), HF1.out⟩
  case round =>
    clear HR1 HF1 HLD0
    obtain ⟨k, S1, ol1, hk, rfl, hr, hl, hf⟩ := hrel
    obtain ⟨W1, rfl⟩ : ∃ W1, W1 = wr := ⟨_, rfl⟩
    have HR := Lib.hid hr
    have HL := Lib.hid hl
    have HF := Lib.hid hf
    clear hr hl hf
    rcases Nat.lt_or_ge k m with hlt | hge
    · obtain ⟨i, hi⟩ : ∃ i, ol[k]? = some i := ⟨_, List.getElem?_eq_getElem (by rw [← HOL.out]; exact hlt)⟩
      obtain ⟨s, hs, _, _, hin⟩ := HLD.out.start (List.mem_of_getElem? hi)
      rw [List.length_map, H.out.len] at hin
      obtain ⟨u, hu⟩ : ∃ u, us[i]? = some u := ⟨_, List.getElem?_eq_getElem (by rw [H.out.len]; exact hin)⟩
      have hrw := H.out.frm HF.out HNE.out.1 HNE.out.2 HGB.out
      obtain ⟨ad, hA, i0, i1, i2, i3, i4⟩ := cz_five (hrw.ins HP.out).ry hu
      obtain ⟨cs, hcs, _, hcv⟩ := hrw.row
      have k5 := hcs.cell k
      rw [hcv k i hi] at k5
      replace k5 : W1.cell? ⟨q, k, none⟩ = some (.int .i64 (i : Int)) := k5
      have k0 := HR.out.arm
      have hpi : (us.map (·.i))[i]? = some u.i := by rw [List.getElem?_map, hu]; rfl
      have hil : i < 200 := by omega
      have hba : Below W1.heap.size W1 (W1.alloc (.cells #[.int .i64 u.i.kind, .int .i64 u.i.x, .int .i64 u.i.y, .bool u.i.neg, .slice u.A u.i.sp.length u.c] 39)) := (Below.refl _ _).alloc (Nat.le_refl _) _
      have hv := Cel.new W1 39 [.int .i64 u.i.kind, .int .i64 u.i.x, .int .i64 u.i.y, .bool u.i.neg, .slice u.A u.i.sp.length u.c]
      have HNO := Lib.hid (show ¬ (u.i.kind = 1 ∧ has u.i c = true) → Ld (us.map (·.i)) S1 ol1 (Fol (us.map (·.i)) S ol c (k + 1)) from fun q => HL.out.same (fol_no hi (fun e => q ((Tak.of hpi).1 e))))
      have HYES := Lib.hid (show ∀ S2 ol2, u.i.kind = 1 → has u.i c = true → Come (us.map (·.i)) (live n S1) (live n S2) ((i : Int) + 1) → Grow n S1 S2 ol1 ol2 (s : Int) → Ld (us.map (·.i)) S2 ol2 (Fol (us.map (·.i)) S ol c (k + 1)) from fun S2 ol2 q1 q2 q3 q4 => by
        have hun : (us.map (·.i)).length = n := by rw [List.length_map, H.out.len]
        rw [← hun] at q3 q4
        exact (HL.out.enter (a := i + 1) (by push_cast; exact q3) q4 (fun s' j q => fol_le HLD.out hi hs q)).same (fol_yes hi hs ((Tak.of hpi).2 ⟨q1, q2⟩)))
      have HAS := Lib.hid (phas (W1.alloc (.cells #[.int .i64 u.i.kind, .int .i64 u.i.x, .int .i64 u.i.y, .bool u.i.neg, .slice u.A u.i.sp.length u.c] 39)) u.i u.A u.c c ((Pr9.below' (hrw.ins HP.out) hba).sp u (List.mem_of_getElem? hu)) (by have := HSP.out u (List.mem_of_getElem? hu); omega))
      have HFA := Lib.hid (HF.out.trans (Frm.of_below hba))
      have HRA := Lib.hid (HR.out.below hba)
      have HI := Lib.hid hi
      have HS := Lib.hid hs
      have HV := Lib.hid hv
      have v0 := hv.cell 0
      clear hi hs hu hcs hcv hpi hrw hv
      subst hA
      obtain ⟨⟨kd, px, py, ng, l⟩, uA, uc⟩ := u
      dsimp only at *
      by_cases h1 : kd = 1
      · subst h1
        go_wp2_with fail
        refine HAS.out.mono ?_
        clear HAS
        rintro e w2 ⟨rfl, hb2⟩
        have HR2 := Lib.hid (HRA.out.below hb2)
        have HF2 := Lib.hid (HFA.out.trans (Frm.of_below hb2))
        have k6 := (H.out.frm HF2.out HNE.out.1 HNE.out.2 HGB.out).start HS.out
        clear hb2
        cases hh : has ⟨1, px, py, ng, l⟩ c
        · have HN2 := Lib.hid (HNO.out (fun q => by rw [hh] at q; cases q.2))
          clear hh
          go_wp2_with fail
          exact ⟨⟨k + 1, S1, ol1, by omega, by rw [show ((k + 1 : Nat) : Int) = (k : Int) + 1 by omega], HR2.out, HN2.out, HF2.out⟩, by simp [intOf]; omega⟩
        · have HY := Lib.hid (fun S2 ol2 => HYES.out S2 ol2 (by trivial) hh)
          have con := enter_ HP.out HFIT.out HR2.out ((i : Int) + 1) s
          clear hh
          go_wp2_with fail
          refine con.mono ?_
          clear con
          rintro e w3 ⟨rfl, S2, ol2, hc2, hg2, hf3, hr3⟩
          have HL3 := Lib.hid (HY.out S2 ol2 hc2 hg2)
          have HR3 := Lib.hid hr3
          have HF3 := Lib.hid (HF2.out.trans hf3)
          clear hc2 hg2 hf3 hr3
          go_wp2_with fail
          exact ⟨⟨k + 1, S2, ol2, by omega, by rw [show ((k + 1 : Nat) : Int) = (k : Int) + 1 by omega], HR3.out, HL3.out, HF3.out⟩, by simp [intOf]; omega⟩
      · have HN2 := Lib.hid (HNO.out (fun q => h1 q.1))
        have z1 : (kd == 1) = false := by simp [h1]
        go_wp2_with fail
        exact ⟨⟨k + 1, S1, ol1, by omega, by rw [show ((k + 1 : Nat) : Int) = (k : Int) + 1 by omega], HRA.out, HN2.out, HFA.out⟩, by simp [intOf]; omega⟩
    · obtain rfl : k = m := by omega
      have HT := Lib.hid (HLD.out.followed (by have := HL.out; rw [HOL.out] at this; exact this))
      go_wp2_with fail
      exact bodyPost_end (results_none rfl _ _ _) rfl ⟨rfl, S1, ol1, HR.out, HT.out, HF.out⟩
end
end Go.Proofs.Ytjpbndpfbdfhjaa.Seek
end

section
namespace Go.Proofs.Ytjpbndpfbdfhjaa.Seek
open Go.RowKit Go.Proofs.Ytjpbndpfbdfhjaa.Nfa Go.Proofs.Ytjpbndpfbdfhjaa.Ord
open Go.Proofs.Ytjpbndpfbdfhjaa.Reg (Sp RSpn sflat)
set_option linter.unusedVariables false
set_option linter.unusedSimpArgs false
section
variable {V w w' : World} {g q g2 q2 n pc : Nat} {A : Option Addr} {us : List Iv} {S S0 : List Int} {ol ol0 : List Nat} {Q Q0 : Nat → Nat → Prop} {p : List In}
theorem Ru.rebase (h : Ru V w g q A us n pc S ol) {U : World} (hb : Below U.heap.size U V) : Ru U w g q A us n pc S ol :=
  ⟨h.run, h.row, h.len, h.nle, h.slen, h.cnt, hb.trans (h.base.mono hb.size), Nat.le_trans hb.size h.gb, Nat.le_trans hb.size h.qb⟩
theorem zero_runs (A : Option Addr) (n pc : Nat) (B : Option Addr) (m mc : Nat) : (Try.zeroCells113.setIfInBounds 0 (.slice A n pc)).setIfInBounds 201 (.slice B m mc) = (Value.slice A n pc :: (List.replicate 200 (Value.int .i64 0) ++ [Value.slice B m mc])).toArray := by kernel_rfl
theorem rep_step {k : Nat} (hk : k < 200) : List.replicate (k + 1) (-1 : Int) ++ List.replicate (200 - (k + 1)) 0 = List.replicate k (-1) ++ (List.replicate (200 - k) 0).set (k - (List.replicate k (-1 : Int)).length) (-1) := by
  obtain ⟨m, hm⟩ : ∃ m, 200 - k = m + 1 := ⟨200 - k - 1, by omega⟩
  rw [show 200 - (k + 1) = m by omega, hm, List.length_replicate, Nat.sub_self, List.replicate_succ (n := m), List.set_cons_zero, List.replicate_succ' (n := k)]
  simp
theorem made_ints (k : Nat) : madeCells (Value.cells (.int .i64 0)) (k * 1) = (List.replicate k (iv 0)).toArray := by
  apply Array.ext
  · simp [size_madeCells]
  · intro i h1 h2
    simp [madeCells, Value.cells, Nat.mod_one, iv]
theorem iinfo : (Try.prog.info? 3).map (fun i => (i.zero, i.size, i.bytes)) = some (some (.int .i64 0), 1, 8) := by kernel_rfl
theorem run_make_ints (w : World) (k : Nat) (hk : k ≤ 1000) :
    (Instr.makeSlice 101 (.int .i64 0) (.int .i64 (k : Int))).run Try.prog w = .ok (.slice (some ⟨w.heap.size, 0, none⟩) 0 k) (w.alloc (.cells (List.replicate k (iv 0)).toArray 3)) := by
  cases hi : Try.prog.info? 3 with
  | none => have := iinfo; rw [hi] at this; cases this
  | some i =>
    have e := iinfo
    rw [hi] at e
    simp only [Option.map_some, Option.some.injEq, Prod.mk.injEq] at e
    obtain ⟨hz, hsz, hby⟩ := e
    have h := run_make (P := Try.prog) w 101 3 i (.int .i64 0) Try.underlying101 hi hz .i64 .i64 0 k (by omega) (by omega) (by rw [hby]; omega) (by omega)
    simp only [Int.toNat_natCast] at h
    rw [h, hsz, made_ints]
    rfl
set_option maxRecDepth 100000 in
set_option maxHeartbeats 1000000 in
theorem new_runs (w : World) (A : Option Addr) (us : List Iv) (n pc : Nat) (hl : us.length = n) (hn : n ≤ 200) :
    Calls Try.prog 30 #[.slice A n pc] w fun e w' => Below w.heap.size w w' ∧ ∃ g q, e = .returned (.pointer (some ⟨g, 0, none⟩)) ∧ g < w'.heap.size ∧ q < w'.heap.size ∧ Ru w w' g q A us n pc (List.replicate 200 (-1)) [] := by
  obtain ⟨zs, hz⟩ : ∃ zs, zs = List.replicate n (iv 0) := ⟨_, rfl⟩
  have hmk := run_make_ints w n (by omega)
  rw [← hz] at hmk
  have HZ := Lib.hid hz
  have hq := Cel.new w 3 zs
  have hg := Cel.new (w.alloc (.cells zs.toArray 3)) 113 (Value.slice A n pc :: (List.replicate 200 (Value.int .i64 0) ++ [Value.slice (some ⟨w.heap.size, 0, none⟩) 0 n]))
  rw [show (w.alloc (.cells zs.toArray 3)).heap.size = w.heap.size + 1 by simp, ← zero_runs] at hg
  have HQ := Lib.hid (hq.alloc (.cells ((Try.zeroCells113.setIfInBounds 0 (.slice A n pc)).setIfInBounds 201 (.slice (some ⟨w.heap.size, 0, none⟩) 0 n)) 113))
  have HG := Lib.hid hg
  have HB := Lib.hid (show Below w.heap.size w ((w.alloc (.cells zs.toArray 3)).alloc (.cells ((Try.zeroCells113.setIfInBounds 0 (.slice A n pc)).setIfInBounds 201 (.slice (some ⟨w.heap.size, 0, none⟩) 0 n)) 113)) from ((Below.refl _ _).alloc (Nat.le_refl _) _).alloc (by simp) _)
  clear hq hg hz
  go_enter Try.func30, Try.ntmps30
  go_wp2_with fail
  go_loopw [11] (fun v11 wr => ∃ (k : Nat), k ≤ 200 ∧ v11 = .int .i64 (k : Int) ∧ Cel wr (w.heap.size + 1) 113 (Value.slice A n pc :: ((List.replicate k (-1) ++ List.replicate (200 - k) 0).map iv ++ [Value.slice (some ⟨w.heap.size, 0, none⟩) 0 n])) ∧ Cel wr w.heap.size 3 zs ∧ Below w.heap.size w wr) (fun v11 _ => 200 - (intOf v11).toNat)
  case atStart => exact ⟨0, Nat.zero_le _, rfl, by
    have := HG.out
    unfold Cel at this ⊢
    rw [this]
    simp [iv], HQ.out, HB.out⟩
  case round =>
    clear HG HQ HB
    obtain ⟨k, hk, rfl, hg, hq, hb⟩ := hrel
    obtain ⟨W1, rfl⟩ : ∃ W1, W1 = wr := ⟨_, rfl⟩
    have HG := Lib.hid hg
    have HQ := Lib.hid hq
    have HB := Lib.hid hb
    clear hg hq hb
    rcases Nat.lt_or_ge k 200 with hlt | hge
    · have k6 := HG.out.free (1 + k)
      have k7 : W1.cell? ⟨w.heap.size + 1, 1 + k, none⟩ = some (.int .i64 0) := by
        rw [HG.out.cell, Nat.add_comm, List.getElem?_cons_succ, List.getElem?_append_left (by simp; omega), List.getElem?_map, List.getElem?_append_right (by simp), List.getElem?_replicate, if_pos (by simp; omega)]; rfl
      have HG2 := Lib.hid (show Cel (W1.setCell ⟨w.heap.size + 1, 1 + k, none⟩ (.int .i64 (-1))) (w.heap.size + 1) 113 (Value.slice A n pc :: ((List.replicate (k + 1) (-1) ++ List.replicate (200 - (k + 1)) 0).map iv ++ [Value.slice (some ⟨w.heap.size, 0, none⟩) 0 n])) by
        have := HG.out.set (1 + k) (.int .i64 (-1))
        rw [Nat.add_comm 1 k, List.set_cons_succ, show Value.int .i64 (-1) = iv (-1) from rfl, run_set (by simp; omega), List.set_append_right _ _ (by simp)] at this
        rw [Nat.add_comm 1 k, show Value.int .i64 (-1) = iv (-1) from rfl]
        rw [rep_step hlt]
        exact this)
      have HQ2 := Lib.hid (show Cel (W1.setCell ⟨w.heap.size + 1, 1 + k, none⟩ (.int .i64 (-1))) w.heap.size 3 zs from HQ.out.far (p := ⟨w.heap.size + 1, 1 + k, none⟩) (by simp) _)
      have HB2 := Lib.hid (show Below w.heap.size w (W1.setCell ⟨w.heap.size + 1, 1 + k, none⟩ (.int .i64 (-1))) from HB.out.trans (((Frm.refl [w.heap.size + 1] W1).set (p := ⟨w.heap.size + 1, 1 + k, none⟩) (by simp) (.int .i64 (-1))).below HB.out.size (by intro k hk; simp at hk; omega)))
      go_wp2_with fail
      exact ⟨⟨k + 1, by omega, by rw [show ((k + 1 : Nat) : Int) = (k : Int) + 1 by omega], HG2.out, HQ2.out, HB2.out⟩, by simp [intOf]; omega⟩
    · obtain rfl : k = 200 := by omega
      have HR := Lib.hid (show Ru w W1 (w.heap.size + 1) w.heap.size A us n pc (List.replicate 200 (-1)) [] by
        have hg := HG.out
        rw [Nat.sub_self, List.replicate_zero, List.append_nil] at hg
        refine ⟨hg, ⟨zs, HQ.out, by rw [HZ.out]; simp, fun k j hk => by simp at hk⟩, hl, hn, by simp, ?_, HB.out, by omega, Nat.le_refl _⟩
        have hl : (live n (List.replicate 200 (-1))).length = n := live_len (by rw [List.length_replicate]; exact hn)
        have := List.count_le_length (a := false) (l := live n (List.replicate 200 (-1)))
        simp only [List.length_nil]
        omega)
      have h1 := HG.out.lt
      have h2 := HQ.out.lt
      go_wp2_with fail
      go_ret
      exact ⟨HB.out, _, _, rfl, h1, h2, HR.out⟩
set_option maxRecDepth 100000 in
set_option maxHeartbeats 2000000 in
theorem first_match (w : World) (A : Option Addr) (us : List Iv) (n pc : Nat) (hl : us.length = n) (hn : n ≤ 200) (hp : Pr9 w A us) (fit : ∀ u ∈ us, (-9223372036854775808 ≤ u.i.x ∧ u.i.x < 9223372036854775808) ∧ -9223372036854775808 ≤ u.i.y ∧ u.i.y < 9223372036854775808)
    (hsp : ∀ u ∈ us, u.i.sp.length ≤ 1000) (B : Option Addr) (m bc : Nat) (bs : List (BitVec 8)) (hb : Bs w w.heap.size B m bs) (hm : m ≤ 1000) :
    Calls Try.prog 18 #[.slice A n pc, .slice B m bc] w fun e w' => Below w.heap.size w w' ∧ ∃ (f t : Int) (ok : Bool), e = .returned (.tuple #[.int .i64 f, .int .i64 t, .bool ok]) ∧ FmTells (us.map (·.i)) bs f t ok := by
  have con := new_runs w A us n pc hl hn
  have con2 := fun W => new_runs W A us n pc hl hn
  have HP := Lib.hid hp
  have HFIT := Lib.hid fit
  have HSP := Lib.hid hsp
  have HB := Lib.hid hb
  have hbl : bs.length = m := hb.1
  have HBL := Lib.hid hbl
  have HUN := Lib.hid (show (us.map (·.i)).length = n by rw [List.length_map, hl])
  have HC2 := Lib.hid con2
  clear hl hp fit hsp hb hbl con2
  go_enter Try.func18, Try.ntmps18
  go_wp2_with fail
  refine con.mono ?_
  clear con
  rintro e w1 ⟨hb1, g1, q1, rfl, hg1, hq1, hr1⟩
  have con := HC2.out w1
  have HB1 := Lib.hid hb1
  have HR1 := Lib.hid hr1
  clear hb1 hr1 HC2
  go_wp2_with fail
  refine con.mono ?_
  clear con
  rintro e w2 ⟨hb2, g2, q2, rfl, hg2, hq2, hr2⟩
  have HB2 := Lib.hid (HB1.out.trans (hb2.mono HB1.out.size))
  have HRA := Lib.hid (HR1.out.below hb2)
  have HRB := Lib.hid (hr2.rebase HB1.out)
  have HNE := Lib.hid (show g1 ≠ g2 ∧ q1 ≠ q2 from ⟨by have := hr2.gb; omega, by have := hr2.qb; omega⟩)
  clear hb2 hr2 HR1 HB1
  have con : Calls Try.prog 31 #[.pointer (some ⟨g1, 0, none⟩), .int .i64 0, .int .i64 0] w2 (EtSays w w2 g1 q1 A us n pc (List.replicate 200 (-1)) [] 0 0) := enter_ HP.out HFIT.out HRA.out 0 0
  go_wp2_with fail
  refine con.mono ?_
  clear con
  rintro e w3 ⟨rfl, S1, ol1, hc3, hgr3, hf3, hr3⟩
  have hgr : ∀ k ∈ [g1, q1], w.heap.size ≤ k := by intro k hk; simp at hk; rcases hk with rfl | rfl; exact HRA.out.gb; exact HRA.out.qb
  have hgq : g2 ∉ [g1, q1] ∧ q2 ∉ [g1, q1] := by
    obtain ⟨_, ha, _⟩ := HRA.out.row
    obtain ⟨_, hb, _⟩ := HRB.out.row
    have e1 := Cel.ne HRB.out.run ha (by decide)
    have e2 := Cel.ne hb HRA.out.run (by decide)
    simp
    exact ⟨⟨fun e => HNE.out.1 e.symm, e1⟩, e2, fun e => HNE.out.2 e.symm⟩
  have HRB3 := Lib.hid (HRB.out.frm hf3 hgq.1 hgq.2 hgr)
  have HRA3 := Lib.hid hr3
  have HB3 := Lib.hid (HB2.out.trans (hf3.below HB2.out.size hgr))
  have hnil : ∀ (j : Nat) (z : Int), j < (us.map (·.i)).length → (List.replicate 200 (-1 : Int))[j]? = some z → z = -1 := fun j z _ hz => by
    rw [List.getElem?_replicate] at hz
    split at hz <;> simp at hz
    exact hz.symm
  have hn0 : Ld (us.map (·.i)) (List.replicate 200 (-1)) [] (fun _ _ => False) := Ld.nil_ (by rw [HUN.out, List.length_replicate]; exact hn) hnil
  have HLB3 := Lib.hid hn0
  have HLA3 := Lib.hid (show Ld (us.map (·.i)) S1 ol1 (Rq (us.map (·.i)) bs 0) by
    rw [← HUN.out] at hc3 hgr3
    exact (hn0.enter (a := 0) (t := 0) hc3 hgr3 (fun _ _ q => q.elim)).same (rq_zero bs))
  clear hc3 hgr3 hf3 hr3 hgr hgq hnil hn0 HRB HRA HB2
  go_wp2_with fail
  go_loopw [7, 8, 26] (fun v7 v8 v26 wr => ∃ (k g1 q1 g2 q2 : Nat) (S S0 : List Int) (ol ol0 : List Nat) (Q0 : Nat → Nat → Prop), k ≤ m ∧ v7 = .pointer (some ⟨g1, 0, none⟩) ∧ v8 = .pointer (some ⟨g2, 0, none⟩) ∧ v26 = .int .i64 (k : Int) ∧
    Ru w wr g1 q1 A us n pc S ol ∧ Ru w wr g2 q2 A us n pc S0 ol0 ∧ (g1 ≠ g2 ∧ q1 ≠ q2) ∧ Ld (us.map (·.i)) S ol (Rq (us.map (·.i)) bs k) ∧ Ld (us.map (·.i)) S0 ol0 Q0 ∧ (∀ s e, s ≤ e → e < k → ¬ Hits (us.map (·.i)) (cut bs s e)) ∧ Below w.heap.size w wr) (fun _ _ v26 _ => m - (intOf v26).toNat)
  case atStart => exact ⟨0, g1, q1, g2, q2, _, _, _, _, _, Nat.zero_le _, rfl, rfl, rfl, HRA3.out, HRB3.out, HNE.out, HLA3.out, HLB3.out, fun s e h1 h2 => absurd h2 (Nat.not_lt_zero _), HB3.out⟩
  case round =>
    clear HRA3 HRB3 HNE HLA3 HLB3 HB3 hg1 hq1 hg2 hq2
    obtain ⟨k, g1, q1, g2, q2, S, S0, ol, ol0, Q0, hk, rfl, rfl, rfl, hra, hrb, hne, hla, hlb, hno, hbw⟩ := hrel
    obtain ⟨W1, rfl⟩ : ∃ W1, W1 = wr := ⟨_, rfl⟩
    have HRA := Lib.hid hra
    have HRB := Lib.hid hrb
    have HNE := Lib.hid hne
    have HLA := Lib.hid hla
    have HLB := Lib.hid hlb
    have HNO := Lib.hid hno
    have HBW := Lib.hid hbw
    have con := pdone hra HP.out hla
    clear hra hrb hne hla hlb hno hbw
    rcases Nat.lt_or_ge k m with hlt | hge
    · obtain ⟨c, hc⟩ : ∃ c, bs[k]? = some c := ⟨_, List.getElem?_eq_getElem (by rw [HBL.out]; exact hlt)⟩
      obtain ⟨bd, rfl, _, b0⟩ := (HB.out.below HBW.out).at_ hlt
      rw [List.getD_eq_getElem?_getD, hc] at b0
      change _ = some (v8 c) at b0
      have HC := Lib.hid hc
      clear hc
      go_wp2_with fail
      refine con.mono ?_
      clear con
      rintro e w2 ⟨rfl, s, ok, rfl, hdn⟩
      have HDN := Lib.hid hdn
      clear hdn
      cases ok
      · have HM := Lib.hid (fm_miss HDN.out HNO.out)
        have con := follow_ HRA.out HRB.out HNE.out.1 HNE.out.2 HP.out HFIT.out HSP.out HLA.out HLB.out c
        clear HDN
        go_wp2_with fail
        refine con.mono ?_
        clear con
        rintro e w3 ⟨rfl, S3, ol3, hr3, hl3, hf3⟩
        have hgr : ∀ k ∈ [g2, q2], w.heap.size ≤ k := by intro k hk; simp at hk; rcases hk with rfl | rfl; exact HRB.out.gb; exact HRB.out.qb
        have hgq : g1 ∉ [g2, q2] ∧ q1 ∉ [g2, q2] := by
          obtain ⟨_, ha, _⟩ := HRA.out.row
          obtain ⟨_, hb, _⟩ := HRB.out.row
          have e1 := Cel.ne HRA.out.run hb (by decide)
          have e2 := Cel.ne ha HRB.out.run (by decide)
          simp
          exact ⟨⟨HNE.out.1, e1⟩, e2, HNE.out.2⟩
        have HGR := Lib.hid hgr
        have HGQ := Lib.hid hgq
        have HR3 := Lib.hid hr3
        have HL3 := Lib.hid hl3
        have HRA3 := Lib.hid (HRA.out.frm hf3 hgq.1 hgq.2 hgr)
        have HB3 := Lib.hid (HBW.out.trans (hf3.below HBW.out.size hgr))
        have con : Calls Try.prog 31 #[.pointer (some ⟨g2, 0, none⟩), .int .i64 0, .int .i64 ((k : Int) + 1)] w3 (EtSays w w3 g2 q2 A us n pc S3 ol3 0 ((k + 1 : Nat) : Int)) := by
          have := enter_ HP.out HFIT.out hr3 0 (k + 1)
          rwa [show ((k + 1 : Nat) : Int) = (k : Int) + 1 by omega] at this ⊢
        clear hr3 hl3 hf3 hgr hgq
        go_wp2_with fail
        refine con.mono ?_
        clear con
        rintro e w4 ⟨rfl, S4, ol4, hc4, hg4, hf4, hr4⟩
        have HR4 := Lib.hid hr4
        have HRA4 := Lib.hid (HRA3.out.frm hf4 HGQ.out.1 HGQ.out.2 HGR.out)
        have HB4 := Lib.hid (HB3.out.trans (hf4.below HB3.out.size HGR.out))
        have HL4 := Lib.hid (show Ld (us.map (·.i)) S4 ol4 (Rq (us.map (·.i)) bs (k + 1)) by
          rw [← HUN.out] at hc4 hg4
          exact (HL3.out.enter (a := 0) (t := k + 1) hc4 hg4 (fun s j q => rq_take_le q)).same (rq_step HC.out))
        clear hc4 hg4 hf4 hr4 HR3 HL3 HRA3 HB3 HGR HGQ
        go_wp2_with fail
        exact ⟨⟨k + 1, g2, q2, g1, q1, _, _, _, _, _, by omega, rfl, rfl, by rw [show ((k + 1 : Nat) : Int) = (k : Int) + 1 by omega], HR4.out, HRA4.out, ⟨fun e => HNE.out.1 e.symm, fun e => HNE.out.2 e.symm⟩, HL4.out, HLA.out, HM.out, HB4.out⟩, by simp [intOf]; omega⟩
      · have HT := Lib.hid (fm_hit HDN.out (by rw [HBL.out]; omega) HNO.out)
        go_wp2_with fail
        go_ret3
        exact ⟨HBW.out, _, _, _, rfl, HT.out⟩
    · obtain rfl : k = m := by omega
      go_wp2_with fail
      refine con.mono ?_
      clear con
      rintro e w2 ⟨rfl, s, ok, rfl, hdn⟩
      have HDN := Lib.hid hdn
      clear hdn
      have HT := Lib.hid (fm_end (by rw [HBL.out]; exact HDN.out) (by rw [HBL.out]; exact HNO.out))
      go_wp2_with fail
      go_ret3
      refine ⟨HBW.out, _, _, _, rfl, ?_⟩
      have := HT.out
      rw [HBL.out] at this
      exact this
end
end Go.Proofs.Ytjpbndpfbdfhjaa.Seek
end

section
namespace Go.Proofs.Ytjpbndpfbdfhjaa.Seek
open Go.RowKit Go.Proofs.Ytjpbndpfbdfhjaa.Nfa Go.Proofs.Ytjpbndpfbdfhjaa.Ord
open Go.Proofs.Ytjpbndpfbdfhjaa.Reg (Sp RSpn sflat results_at range_of)
set_option linter.unusedVariables false
set_option linter.unusedSimpArgs false
section
variable {ps : List (List In)} {p : List In} {b : List (BitVec 8)} {i k L : Nat} {z0 z a f t f' t' : Int}
/-- What has been found in the first arms: only what ends at L or ahead of it would be better. -/
def LkAt (ps : List (List In)) (b : List (BitVec 8)) (i k L : Nat) (z0 z a f t : Int) : Prop :=
  (L = k ∧ z = z0 ∧ a = 0 ∧ f = 0 ∧ t = 0 ∧ None_ (ps.take i) b) ∨ ∃ x g : Nat, a = (x : Int) ∧ f = (g : Int) ∧ t = ((L + 1 : Nat) : Int) ∧ z = 0 ∧ L < k ∧ Best (ps.take i) b x g (L + 1)
theorem cut_take {f t : Nat} (h : t ≤ L) : cut (b.take L) f t = cut b f t := by rw [cut, cut, List.take_take, Nat.min_eq_left h]
theorem met_take (hp : ps[i]? = some p) {j f t : Nat} (h : Met (ps.take (i + 1)) b j f t) : Met (ps.take i) b j f t ∨ j = i ∧ f ≤ t ∧ t ≤ b.length ∧ Hits p (cut b f t) := by
  obtain ⟨q, hq, h1, h2, h3⟩ := h
  rw [List.getElem?_take] at hq
  split at hq
  · rename_i hj
    by_cases e : j = i
    · subst e
      rw [hp] at hq
      cases hq
      exact .inr ⟨rfl, h1, h2, h3⟩
    · exact .inl ⟨q, by rw [List.getElem?_take, if_pos (by omega)]; exact hq, h1, h2, h3⟩
  · cases hq
theorem met_up {j f t : Nat} (h : Met (ps.take i) b j f t) : Met (ps.take (i + 1)) b j f t ∧ j < i := by
  obtain ⟨q, hq, h1⟩ := h
  rw [List.getElem?_take] at hq
  split at hq
  · rename_i hj
    exact ⟨⟨q, by rw [List.getElem?_take, if_pos (by omega)]; exact hq, h1⟩, hj⟩
  · cases hq
theorem LkAt.miss (h : LkAt ps b i k L z0 z a f t) (hk : b.length = k) (hp : ps[i]? = some p) (hf : FmTells p (b.take L) f' t' false) : LkAt ps b (i + 1) k L z0 z a f t := by
  have hno : ∀ s e, s ≤ e → e ≤ L → e ≤ k → ¬ Hits p (cut b s e) := by
    rcases hf with ⟨_, hf⟩ | ⟨_, _, hf, _⟩
    · intro s e h1 h2 h3 hh
      exact hf s e h1 (by rw [List.length_take]; omega) (by rw [cut_take h2]; exact hh)
    · cases hf
  rcases h with ⟨h1, h2, h3, h4, h5, h6⟩ | ⟨x, g, h1, h2, h3, h4, h5, h6⟩
  · refine .inl ⟨h1, h2, h3, h4, h5, fun i' f' t' hm => ?_⟩
    rcases met_take hp hm with hm | ⟨_, q1, q2, q3⟩
    · exact h6 _ _ _ hm
    · exact hno f' t' q1 (by omega) (by omega) q3
  · refine .inr ⟨x, g, h1, h2, h3, h4, h5, (met_up h6.met).1, fun i' f' t' hm => ?_⟩
    have hx := (met_up h6.met).2
    rcases met_take hp hm with hm | ⟨rfl, q1, q2, q3⟩
    · exact h6.first _ _ _ hm
    · rcases Nat.lt_or_ge L t' with q | q
      · omega
      · exact absurd q3 (hno f' t' q1 q (by omega))
theorem LkAt.hit (h : LkAt ps b i k L z0 z a f t) (hk : b.length = k) (hp : ps[i]? = some p) (hf : FmTells p (b.take L) f' t' true) : ∃ g e : Nat, f' = (g : Int) ∧ t' = (e : Int) ∧ e ≤ L ∧ e ≤ k ∧ Best (ps.take (i + 1)) b i g e := by
  rcases hf with ⟨hf, _⟩ | ⟨g, e, _, rfl, rfl, h1, h2, h3, h4⟩
  · cases hf
  rw [List.length_take] at h2
  refine ⟨g, e, rfl, rfl, by omega, by omega, ⟨p, by rw [List.getElem?_take, if_pos (by omega)]; exact hp, h1, by omega, by rw [← cut_take (L := L) (by omega)]; exact h3⟩, fun i' f' t' hm => ?_⟩
  rcases met_take hp hm with hm | ⟨rfl, q1, q2, q3⟩
  · rcases h with ⟨_, _, _, _, _, h6⟩ | ⟨x, y, _, _, _, _, _, h6⟩
    · exact absurd hm (h6 _ _ _)
    · have := h6.first _ _ _ hm
      omega
  · rcases Nat.lt_or_ge L t' with q | q
    · omega
    · have := h4 f' t' q1 (by rw [List.length_take]; omega) (by rw [cut_take q]; exact q3)
      omega
/-- An empty match ends the search. -/
theorem best_zero {g : Nat} (h : Best (ps.take (i + 1)) b i g 0) : Best ps b i g 0 := by
  obtain ⟨q, hq, h1⟩ := h.met
  rw [List.getElem?_take, if_pos (by omega)] at hq
  refine ⟨⟨q, hq, h1⟩, fun i' f' t' hm => ?_⟩
  by_cases e : i' < i + 1
  · obtain ⟨q', hq', h1'⟩ := hm
    exact h.first i' f' t' ⟨q', by rw [List.getElem?_take, if_pos e]; exact hq', h1'⟩
  · omega
theorem LkAt.done (h : LkAt ps b ps.length k L z0 z a f t) (over : Bool) (hz : z0 = if over then 2 else 1) : LkTells ps b over a f t z := by
  unfold LkAt at h
  rw [List.take_of_length_le (Nat.le_refl _)] at h
  rcases h with ⟨h1, h2, h3, h4, h5, h6⟩ | ⟨x, g, h1, h2, h3, h4, h5, h6⟩
  · exact .inl ⟨h6, h3, h4, h5, h2.trans hz⟩
  · exact .inr ⟨x, g, L + 1, h6, h1, h2, h3, h4⟩
end
/-- What the program's Look returns. -/
def PLkSays (w : World) (ps : List (List In)) (b : List (BitVec 8)) (over : Bool) (e : Ending) (w' : World) : Prop :=
  Below w.heap.size w w' ∧ ∃ a f t n : Int, e = .returned (.tuple #[.agg #[.int .i64 a, .int .i64 f, .int .i64 t], .int .i64 n]) ∧ LkTells ps b over a f t n
theorem load_found {w : World} {g : Nat} {x0 x1 x2 : Value} (h : Cel w g 41 [x0, x1, x2]) : (loadVar 41 ⟨g, 0, none⟩).run Try.prog w = .ok (.agg #[x0, x1, x2]) w :=
  run_loadVar_mid (P := Try.prog) w g 0 41 [x0, x1, x2] _ (range_of h) Try.underlying41 rfl (by kernel_rfl)
/-- A struct of three cells is stored. -/
def fw (w : World) (g : Nat) (a b c : Value) : World := ((w.setCell ⟨g, 0, none⟩ a).setCell ⟨g, 1, none⟩ b).setCell ⟨g, 2, none⟩ c
theorem fw_cel {w : World} {g : Nat} {t : TypeId} {x y z a b c : Value} (h : Cel w g t [x, y, z]) : Cel (fw w g a b c) g t [a, b, c] := ((h.set 0 a).set 1 b).set 2 c
theorem fw_far {w : World} {g o : Nat} {t : TypeId} {cs : List Value} {a b c : Value} (h : Cel w o t cs) (hn : o ≠ g) : Cel (fw w g a b c) o t cs := ((h.far (p := ⟨g, 0, none⟩) hn a).far (p := ⟨g, 1, none⟩) hn b).far (p := ⟨g, 2, none⟩) hn c
theorem fw_below {w v : World} {g : Nat} {a b c : Value} (h : Below v.heap.size v w) (hg : v.heap.size ≤ g) : Below v.heap.size v (fw w g a b c) :=
  h.trans (((((Frm.refl [g] w).set (p := ⟨g, 0, none⟩) (by simp) a).set (p := ⟨g, 1, none⟩) (by simp) b).set (p := ⟨g, 2, none⟩) (by simp) c).below h.size (by intro k hk; simp at hk; omega))
set_option maxRecDepth 100000 in
set_option maxHeartbeats 2000000 in
theorem plook (w : World) (A : Option Addr) (n c : Nat) (xs : List Av) (h : Pas w A xs) (hl : xs.length = n) (hn : n ≤ 1000) (fine : ∀ x ∈ xs, x.us.length ≤ 200 ∧ (∀ u ∈ x.us, (-9223372036854775808 ≤ u.i.x ∧ u.i.x < 9223372036854775808) ∧ -9223372036854775808 ≤ u.i.y ∧ u.i.y < 9223372036854775808) ∧ ∀ u ∈ x.us, u.i.sp.length ≤ 1000) (B : Option Addr) (m bc : Nat) (bs : List (BitVec 8)) (hb : Bs w w.heap.size B m bs) (hm : m ≤ 1000) (hcap : m ≤ bc) :
    Calls Try.prog 11 #[.slice A n c, .slice B m bc] w (PLkSays w (xs.map Av.p) (bs.take 256) (decide (256 ≤ m))) := by
  obtain ⟨ps, hps⟩ : ∃ ps, ps = xs.map Av.p := ⟨_, rfl⟩
  have HPS := Lib.hid hps
  rw [← hps]
  have hpl : ps.length = n := by rw [hps, List.length_map, hl]
  have HPL := Lib.hid hpl
  have H := Lib.hid h
  have HL := Lib.hid hl
  have HF := Lib.hid fine
  have hbl : bs.length = m := hb.1
  clear h hl fine hps hpl
  obtain ⟨bk, hbk⟩ : ∃ bk, bk = bs.take 256 := ⟨_, rfl⟩
  obtain ⟨k, hk⟩ : ∃ k, k = min m 256 := ⟨_, rfl⟩
  have HBK := Lib.hid (show Bs w w.heap.size B k bk by
    have := bs_take hb (show k ≤ m by omega)
    rw [hbk]
    rcases Nat.lt_or_ge 256 m with h | h
    · rw [show k = 256 by omega] at this ⊢; exact this
    · rw [List.take_of_length_le (by omega)] at this ⊢; exact this)
  have hkl : bk.length = k := HBK.out.1
  rw [← hbk]
  have HKL := Lib.hid hkl
  have HK := Lib.hid hk
  have hk1 : k ≤ 256 := by omega
  have hkc : k ≤ bc := by omega
  obtain ⟨z0, hz0⟩ : ∃ z0 : Int, z0 = if decide (256 ≤ m) = true then 2 else 1 := ⟨_, rfl⟩
  have HZ := Lib.hid hz0
  clear hb hbk hkl hbl hk
  have c0 := (Cel.new w 41 [.int .i64 0, .int .i64 0, .int .i64 0]).alloc (.cells #[.int .i64 0, .int .i64 0, .int .i64 0] 41)
  have c1 := Cel.new (w.alloc (.cells #[.int .i64 0, .int .i64 0, .int .i64 0] 41)) 41 [.int .i64 0, .int .i64 0, .int .i64 0]
  rw [show (w.alloc (.cells #[.int .i64 0, .int .i64 0, .int .i64 0] 41)).heap.size = w.heap.size + 1 by simp] at c1
  have HC0 := Lib.hid c0
  have HC1 := Lib.hid c1
  have HB0 := Lib.hid (show Below w.heap.size w ((w.alloc (.cells #[.int .i64 0, .int .i64 0, .int .i64 0] 41)).alloc (.cells #[.int .i64 0, .int .i64 0, .int .i64 0] 41)) from ((Below.refl _ _).alloc (Nat.le_refl _) _).alloc (by simp) _)
  clear c0 c1
  go_enter Try.func11, Try.ntmps11
  go_upto_if 16 with fail
  go_cut [1, 7] (fun s1 s7 wx => s1 = .slice B k bc ∧ s7 = .int .i64 z0 ∧ Cel wx w.heap.size 41 [.int .i64 0, .int .i64 0, .int .i64 0] ∧ Cel wx (w.heap.size + 1) 41 [.int .i64 0, .int .i64 0, .int .i64 0] ∧ Below w.heap.size w wx)
  case first =>
    by_cases hov : 256 ≤ m
    · have hk2 : k = 256 := by have := HK.out; omega
      have hz2 : z0 = 2 := by rw [HZ.out, if_pos (by simp [hov])]
      subst hk2
      subst hz2
      go_wp2_with fail
      go_meet
      case rel => exact ⟨rfl, rfl, HC0.out, HC1.out, HB0.out⟩
    · have hk2 : k = m := by have := HK.out; omega
      have hz2 : z0 = 1 := by rw [HZ.out, if_neg (by simp; omega)]
      subst hk2
      subst hz2
      go_wp2_with fail
      go_meet
      case rel => exact ⟨rfl, rfl, HC0.out, HC1.out, HB0.out⟩
  case rest =>
    clear HC0 HC1 HB0
    obtain ⟨rfl, rfl, hc0, hc1, hb0⟩ := hcut
    have HC0 := Lib.hid hc0
    have HC1 := Lib.hid hc1
    have HB0 := Lib.hid hb0
    clear hc0 hc1 hb0
    go_wp2_with fail
    go_loopw [1, 7, 21] (fun v1 v7 v21 wr => ∃ (i L : Nat) (z a f t : Int), i ≤ n ∧ L ≤ k ∧ v1 = .slice B L bc ∧ v7 = .int .i64 z ∧ v21 = .int .i64 (i : Int) ∧ LkAt ps bk i k L z0 z a f t ∧ Cel wr w.heap.size 41 [.int .i64 0, .int .i64 0, .int .i64 0] ∧ Cel wr (w.heap.size + 1) 41 [.int .i64 a, .int .i64 f, .int .i64 t] ∧ Below w.heap.size w wr) (fun _ _ v21 _ => n - (intOf v21).toNat)
    case atStart => exact ⟨0, k, z0, 0, 0, 0, Nat.zero_le _, Nat.le_refl _, rfl, rfl, rfl, .inl ⟨rfl, rfl, rfl, rfl, rfl, fun i' f' t' hm => by simpa using hm.arm⟩, HC0.out, HC1.out, HB0.out⟩
    case round =>
      clear HC0 HC1 HB0
      obtain ⟨i, L, z, a, f, t, hi, hLk, rfl, rfl, rfl, hlk, hc0, hc1, hbr⟩ := hrel
      obtain ⟨W1, rfl⟩ : ∃ W1, W1 = wr := ⟨_, rfl⟩
      have HLK := Lib.hid hlk
      have HC0 := Lib.hid hc0
      have HC1 := Lib.hid hc1
      have HBR := Lib.hid hbr
      clear hlk hc0 hc1 hbr
      rcases Nat.lt_or_ge i n with hlt | hge
      · obtain ⟨x, hx⟩ : ∃ x, xs[i]? = some x := ⟨_, List.getElem?_eq_getElem (by rw [HL.out]; exact hlt)⟩
        have HPI := Lib.hid (show ps[i]? = some x.p by rw [HPS.out, List.getElem?_map, hx]; rfl)
        obtain ⟨ad, rfl, a0⟩ := (H.out.below HBR.out).at_ hx
        obtain ⟨f1, f2, f3⟩ := HF.out x (List.mem_of_getElem? hx)
        have con := first_match W1 x.A x.us x.us.length x.c rfl f1 ((H.out.below HBR.out).arms x (List.mem_of_getElem? hx)) f2 f3 B L bc (bk.take L) (((bs_take HBK.out hLk).below HBR.out).more HBR.out.size) (by omega)
        clear hx f1 f2 f3
        go_wp2_with fail
        refine con.mono ?_
        clear con
        rintro e w2 ⟨hb2, f2, t2, ok, rfl, hfm⟩
        have HC02 := Lib.hid (HC0.out.below hb2 HC0.out.lt)
        have HC12 := Lib.hid (HC1.out.below hb2 HC1.out.lt)
        have HB2 := Lib.hid (HBR.out.trans (hb2.mono HBR.out.size))
        have HFM := Lib.hid hfm
        clear hb2 hfm a0
        cases ok
        · have HN := Lib.hid (HLK.out.miss HKL.out HPI.out HFM.out)
          go_wp2_with fail
          exact ⟨⟨i + 1, L, z, a, f, t, by omega, hLk, rfl, rfl, by rw [show ((i + 1 : Nat) : Int) = (i : Int) + 1 by omega], HN.out, HC02.out, HC12.out, HB2.out⟩, by simp [intOf]; omega⟩
        · obtain ⟨g, e, rfl, rfl, heL, hek, hbest⟩ := HLK.out.hit HKL.out HPI.out HFM.out
          have HBE := Lib.hid hbest
          clear hbest HFM
          have k0 := HC12.out.cell 0
          have k1 := HC12.out.cell 1
          have k2 := HC12.out.cell 2
          have k3 := HC12.out.free 0
          have k4 := HC12.out.free 1
          have k5 := HC12.out.free 2
          rcases Nat.eq_zero_or_pos e with rfl | hpos
          · have HT := Lib.hid (show LkTells ps bk (decide (256 ≤ m)) i g 0 0 from .inr ⟨i, g, 0, best_zero HBE.out, rfl, rfl, rfl, rfl⟩)
            have hc3 := fw_cel (a := .int .i64 (i : Int)) (b := .int .i64 (g : Int)) (c := .int .i64 0) HC12.out
            have hr3 := fw_far (g := w.heap.size + 1) (a := .int .i64 (i : Int)) (b := .int .i64 (g : Int)) (c := .int .i64 0) HC02.out (by simp)
            have hb3 := fw_below (g := w.heap.size + 1) (a := .int .i64 (i : Int)) (b := .int .i64 (g : Int)) (c := .int .i64 0) HB2.out (by omega)
            have r0 := hr3.cell 0
            have r1 := hr3.cell 1
            have r2 := hr3.cell 2
            have r3 := hr3.free 0
            have r4 := hr3.free 1
            have r5 := hr3.free 2
            have f0 := hc3.cell 0
            have f1 := hc3.cell 1
            have f2 := hc3.cell 2
            have HR4 := Lib.hid (fw_cel (a := .int .i64 (i : Int)) (b := .int .i64 (g : Int)) (c := .int .i64 0) hr3)
            have HB4 := Lib.hid (fw_below (g := w.heap.size) (a := .int .i64 (i : Int)) (b := .int .i64 (g : Int)) (c := .int .i64 0) hb3 (Nat.le_refl _))
            clear hc3 hr3 hb3 HC02 HC12
            unfold fw at *
            go_wp2_with fail
            refine bodyPost_ret (v := .tuple #[.agg #[.int .i64 (i : Int), .int .i64 (g : Int), .int .i64 0], .int .i64 0]) (results_at 4 41 5 Try.results11 ⟨w.heap.size, 0, none⟩ rfl _ _ rfl (load_found HR4.out)) rfl ?_
            exact ⟨HB4.out, _, _, _, _, rfl, HT.out⟩
          · obtain ⟨e', rfl⟩ : ∃ e', e = e' + 1 := ⟨e - 1, by omega⟩
            have hc3 := fw_cel (a := .int .i64 (i : Int)) (b := .int .i64 (g : Int)) (c := .int .i64 ((e' : Int) + 1)) HC12.out
            have hr3 := fw_far (g := w.heap.size + 1) (a := .int .i64 (i : Int)) (b := .int .i64 (g : Int)) (c := .int .i64 ((e' : Int) + 1)) HC02.out (by simp)
            have hb3 := fw_below (g := w.heap.size + 1) (a := .int .i64 (i : Int)) (b := .int .i64 (g : Int)) (c := .int .i64 ((e' : Int) + 1)) HB2.out (by omega)
            have HC3 := Lib.hid hc3
            have HR3 := Lib.hid hr3
            have HB3 := Lib.hid hb3
            clear hc3 hr3 hb3 HC02 HC12
            unfold fw at *
            go_wp2_with fail
            exact ⟨⟨i + 1, e', 0, (i : Int), (g : Int), (e' : Int) + 1, by omega, by omega, rfl, rfl, by rw [show ((i + 1 : Nat) : Int) = (i : Int) + 1 by omega], .inr ⟨i, g, rfl, rfl, by push_cast; rfl, rfl, by omega, HBE.out⟩, HR3.out, HC3.out, HB3.out⟩, by simp [intOf]; omega⟩
      · obtain rfl : i = n := by omega
        have HT := Lib.hid (LkAt.done (ps := ps) (b := bk) (by rw [HPL.out]; exact HLK.out) (decide (256 ≤ m)) HZ.out)
        have r0 := HC0.out.cell 0
        have r1 := HC0.out.cell 1
        have r2 := HC0.out.cell 2
        have r3 := HC0.out.free 0
        have r4 := HC0.out.free 1
        have r5 := HC0.out.free 2
        have f0 := HC1.out.cell 0
        have f1 := HC1.out.cell 1
        have f2 := HC1.out.cell 2
        have HR4 := Lib.hid (fw_cel (a := .int .i64 a) (b := .int .i64 f) (c := .int .i64 t) HC0.out)
        have HB4 := Lib.hid (fw_below (g := w.heap.size) (a := .int .i64 a) (b := .int .i64 f) (c := .int .i64 t) HBR.out (Nat.le_refl _))
        unfold fw at *
        go_wp2_with fail
        refine bodyPost_ret (v := .tuple #[.agg #[.int .i64 a, .int .i64 f, .int .i64 t], .int .i64 z]) (results_at 4 41 5 Try.results11 ⟨w.heap.size, 0, none⟩ rfl _ _ rfl (load_found HR4.out)) rfl ?_
        exact ⟨HB4.out, a, f, t, z, rfl, HT.out⟩
end Go.Proofs.Ytjpbndpfbdfhjaa.Seek
end
