/-
Texts: NfaMap NfaExec NfaSpans NfaBuild NfaKnows
-/
import Derived.Test.YteohlpmojfjjdaaGreatT1
import Derived.Test.YteohlpmojfjjdaaGreatT2
import Derived.Test.YteohlpmojfjjdaaGreatT3
import Derived.Test.YteohlpmojfjjdaaGreatT4
import Derived.Test.YteohlpmojfjjdaaGreatT5
import Derived.Test.YteohlpmojfjjdaaGreatT8
import Derived.Test.YteohlpmojfjjdaaGreatT17
import Derived.Test.YteohlpmojfjjdaaGreatT18
import Derived.Test.YteohlpmojfjjdaaGreatT19
import Derived.Maps.OwnSet
import Derived.Maps.Views
import Derived.Lib.SlBytesConst
set_option linter.unusedVariables false
set_option linter.unusedSimpArgs false
set_option maxRecDepth 100000
set_option maxHeartbeats 4000000
section
namespace Go.Proofs.YteohlpmojfjjdaaGreat.Nfa
open Go.RowKit Go.Proofs.YteohlpmojfjjdaaGreat.Ord Go.Maps
open Reg (Sp sflat Rop)
def Ra (v : Value) : Option (DataW Value × List MemPlace) := some (.held v, [])
def kyI (f : Int) : Lit := .int .i64 f
def fv (j : FuncId) : Value := .func (.func j) #[] #[]
theorem wf_kyI {f : Int} (h : -9223372036854775808 ≤ f ∧ f < 9223372036854775808) : (Lit.int .i64 f).wf = true := by
 simp [Lit.wf, IntKind.min, IntKind.max, IntKind.bits, IntKind.signed]; omega
theorem keyedI : Keyed Tryz.prog 3 := int_keyed Tryz.underlying3
theorem keyOfI {f : Int} (h : -9223372036854775808 ≤ f ∧ f < 9223372036854775808) : keyOf Tryz.prog 3 (.int .i64 f) = some (kyI f) := keyOf_int_mk Tryz.underlying3 (wf_kyI h)
theorem keyI_lit (f : Int) : WideAt.IsKeyLit (kyI f) := trivial
theorem keyI_ne {f g : Int} (h : f ≠ g) : kyI f ≠ kyI g := fun e => h (by unfold kyI at e; injection e)
def Mk (w : World) (b n : Nat) (f : Int → Option FuncId) : Prop := ∃ D, w.ownsMap Tryz.prog 3 Ra b n D ∧ (∀ k, Maps.has D (kyI k) = (f k).isSome) ∧ ∀ k j, f k = some j → ∀ z, D.atKey (kyI k) z = .held (fv j)
theorem Mk.made (w : World) : Mk (w.alloc (.map #[] 0)) w.heap.size 0 (fun _ => none) := ⟨_, World.ownsMap_made w Tryz.prog 3 Ra, fun _ => rfl, fun _ _ h => by cases h⟩
theorem Mk.store {w : World} {b n : Nat} {f : Int → Option FuncId} (h : Mk w b n f) (k : Int) (hk : -9223372036854775808 ≤ k ∧ k < 9223372036854775808) (hn : n ≤ 1000) (j : FuncId) :
  ∃ w', (Instr.mapUpdate 220 (.map (some b)) (.int .i64 k) (fv j)).run Tryz.prog w = .ok () w' ∧ Mk w' b (n + 1) (fun i => if i = k then some j else f i) ∧ w.grownBy w' (some b) := by
 obtain ⟨D, ho, h1, h2⟩ := h
 obtain ⟨w', hr, ho', hg⟩ := World.ownsMap.update ho keyedI Tryz.underlying220 (by unfold maxLen; omega) (keyOfI hk) (val := fv j) (d := .held (fv j)) (ps := []) rfl
 refine ⟨w', hr, ⟨_, ho', fun i => ?_, fun i j' hj z => ?_⟩, hg⟩
 ·by_cases e : i = k
  ·subst e
   rw [show (fun i' => if i' = i then some j else f i') i = some j from if_pos rfl, has_put_same ho.isMap (keyI_lit _)]; rfl
  ·rw [show (fun i' => if i' = k then some j else f i') i = f i from if_neg e, has_put_other (keyI_ne e)]; exact h1 i
 ·by_cases e : i = k
  ·subst e
   rw [show (fun i' => if i' = i then some j else f i') i = some j from if_pos rfl] at hj
   cases hj
   exact atKey_put_same ho.isMap (keyI_lit _) _ _
  ·rw [show (fun i' => if i' = k then some j else f i') i = f i from if_neg e] at hj
   rw [atKey_put_other (keyI_ne e)]; exact h2 i j' hj z
theorem Mk.look {w : World} {b n : Nat} {f : Int → Option FuncId} (h : Mk w b n f) (k : Int) (hk : -9223372036854775808 ≤ k ∧ k < 9223372036854775808) :
  (Instr.lookup 220 (.map (some b)) (.int .i64 k) true).run Tryz.prog w = .ok (.tuple #[match f k with | some j => fv j | none => .nilFunc, .bool (f k).isSome]) w := by
 obtain ⟨D, ho, h1, h2⟩ := h
 obtain ⟨v, ps, hr, hv⟩ := World.ownsMap.look_ok ho keyedI Tryz.underlying220 (Tryz.zeroValue225 w) (zd := .held .nilFunc) (zp := []) rfl (keyOfI hk)
 have hat : D.atKey (kyI k) (.held .nilFunc) = .held v := by
  have e : (DataW.held v, ([] : List MemPlace)) = (D.atKey (kyI k) (.held .nilFunc), ps) := Option.some.inj hv
  exact (Prod.mk.inj e).1.symm
 rw [hr, h1]
 cases hf : f k with
 | none =>
  have := h1 k
  rw [hf] at this
  rw [atKey_of_not_has this] at hat
  cases hat
  rfl
 | some j =>
  rw [h2 k j hf] at hat
  cases hat
  rfl
theorem Mk.kept {w w' : World} {b n : Nat} {f : Int → Option FuncId} (h : Mk w b n f) (he : ∀ es k, w.heap[b]? = some (.map es k) → w'.heap[b]? = w.heap[b]?) : Mk w' b n f := by
 obtain ⟨D, ⟨es, clock, hb, r⟩, h1⟩ := h
 exact ⟨D, ⟨es, clock, (he _ _ hb).trans hb, r⟩, h1⟩
theorem Mk.lt {w : World} {b n : Nat} {f : Int → Option FuncId} (h : Mk w b n f) : b < w.heap.size := by
 obtain ⟨D, ho, _⟩ := h
 exact ho.lt
theorem Mk.wr {w w' : World} {b n : Nat} {f : Int → Option FuncId} (h : Mk w b n f) (hw : Wr w w') : Mk w' b n f := h.kept fun es k e => hw.keep b h.lt (fun o t fz e' => by rw [e] at e'; cases e')
theorem Mk.below {w w' : World} {b n : Nat} {f : Int → Option FuncId} (h : Mk w b n f) (hb : Below w.heap.size w w') : Mk w' b n f := h.kept fun es k e => hb.block b h.lt
def mkF (k : Int) : Option FuncId := if k = 7 then some 174 else if k = 6 then some 173 else if k = 5 then some 172 else if k = 4 then some 171 else if k = 3 then some 170 else if k = 2 then some 169 else if k = 1 then some 168 else none
theorem makers_call (w : World) : Calls Tryz.prog 158 #[] w fun e w' => e = .returned (.map (some w.heap.size)) ∧ Mk w' w.heap.size 7 mkF ∧ Below w.heap.size w w' := by
 have hmm := @run_makeMap Tryz.prog
 obtain ⟨w1, r1, m1, g1⟩ := (Mk.made w).store 1 (by decide) (by decide) 168
 obtain ⟨w2, r2, m2, g2⟩ := m1.store 2 (by decide) (by decide) 169
 obtain ⟨w3, r3, m3, g3⟩ := m2.store 3 (by decide) (by decide) 170
 obtain ⟨w4, r4, m4, g4⟩ := m3.store 4 (by decide) (by decide) 171
 obtain ⟨w5, r5, m5, g5⟩ := m4.store 5 (by decide) (by decide) 172
 obtain ⟨w6, r6, m6, g6⟩ := m5.store 6 (by decide) (by decide) 173
 obtain ⟨w7, r7, m7, g7⟩ := m6.store 7 (by decide) (by decide) 174
 have HM := Lib.hid m7
 have hgb : ∀ {a b : World}, Below w.heap.size w a → a.grownBy b (some w.heap.size) → Below w.heap.size w b := fun ha hg => ha.trans ⟨hg.os, hg.tape, hg.output, hg.size, fun k hk => hg.block k (Nat.lt_of_lt_of_le hk ha.size) (fun e => by cases e; omega)⟩
 have HB := Lib.hid (hgb (hgb (hgb (hgb (hgb (hgb (hgb ((Below.refl _ _).alloc (Nat.le_refl _) _) g1) g2) g3) g4) g5) g6) g7)
 clear m1 m2 m3 m4 m5 m6 m7 g1 g2 g3 g4 g5 g6 g7 hgb
 simp only [fv] at r1 r2 r3 r4 r5 r6 r7
 go_enter Tryz.func158, Tryz.ntmps158
 go_wp2_with fail
 go_ret
 exact ⟨rfl, HM.out, HB.out⟩
theorem op_call (w0 w : World) (s : Nat) (q : Lw) (h : Sq w0 w s q) (hlen : q.bs.length ≤ 100000) (o : Rop) (A : Option Addr) (l c : Nat) (hsp : Cz w0 A (sflat o.sp)) (hl : o.sp.length = l) (j : FuncId) (hj : mkF o.kind = some j) :
  Calls Tryz.prog j #[.pointer (some ⟨s, 0, none⟩), .agg #[.int .i64 o.kind, .bool o.neg, .slice A l c]] w (MSays w0 w s (opL o q)) := by
 unfold mkF at hj
 unfold opL
 obtain ⟨kd, ng, sp⟩ := o
 dsimp only at *
 by_cases h1 : kd = 1
 ·subst h1
  cases hj
  exact set_call w0 w s q h hlen 1 ng A l c sp hsp hl
 by_cases h2 : kd = 2
 ·subst h2
  cases hj
  exact none_call w0 w s q h hlen 2 ng A l c
 by_cases h3 : kd = 3
 ·subst h3
  cases hj
  rw [if_neg h1, if_neg h2, if_pos rfl]
  rcases hb : q.bs with _ | ⟨b, _ | ⟨a, r⟩⟩
  ·exact cat_no w0 w s q h hlen 3 ng A l c (by rw [hb]; simp)
  ·exact cat_no w0 w s q h hlen 3 ng A l c (by rw [hb]; simp)
  ·exact cat_ok w0 w s q h hlen 3 ng A l c a b r hb
 by_cases h4 : kd = 4
 ·subst h4
  cases hj
  rw [if_neg h1, if_neg h2, if_neg h3, if_pos rfl]
  rcases hb : q.bs with _ | ⟨b, _ | ⟨a, r⟩⟩
  ·exact alt_no w0 w s q h hlen 4 ng A l c (by rw [hb]; simp)
  ·exact alt_no w0 w s q h hlen 4 ng A l c (by rw [hb]; simp)
  ·exact alt_ok w0 w s q h hlen 4 ng A l c a b r hb
 by_cases h5 : kd = 5
 ·subst h5
  cases hj
  rw [if_neg h1, if_neg h2, if_neg h3, if_neg h4, if_pos rfl]
  rcases hb : q.bs with _ | ⟨a, r⟩
  ·exact star_no w0 w s q h hlen 5 ng A l c hb
  ·exact star_ok w0 w s q h hlen 5 ng A l c a r hb
 by_cases h6 : kd = 6
 ·subst h6
  cases hj
  rw [if_neg h1, if_neg h2, if_neg h3, if_neg h4, if_neg h5, if_pos rfl]
  rcases hb : q.bs with _ | ⟨a, r⟩
  ·exact plus_no w0 w s q h hlen 6 ng A l c hb
  ·exact plus_ok w0 w s q h hlen 6 ng A l c a r hb
 by_cases h7 : kd = 7
 ·subst h7
  cases hj
  rw [if_neg h1, if_neg h2, if_neg h3, if_neg h4, if_neg h5, if_neg h6, if_pos rfl]
  rcases hb : q.bs with _ | ⟨a, r⟩
  ·exact opt_no w0 w s q h hlen 7 ng A l c hb
  ·exact opt_ok w0 w s q h hlen 7 ng A l c a r hb
 rw [if_neg h7, if_neg h6, if_neg h5, if_neg h4, if_neg h3, if_neg h2, if_neg h1] at hj
 cases hj
theorem op_none (q : Lw) (o : Rop) (hj : mkF o.kind = none) : opL o q = none := by
 unfold mkF at hj
 unfold opL
 by_cases h1 : o.kind = 1
 ·rw [h1] at hj; cases hj
 by_cases h2 : o.kind = 2
 ·rw [h2] at hj; cases hj
 by_cases h3 : o.kind = 3
 ·rw [h3] at hj; cases hj
 by_cases h4 : o.kind = 4
 ·rw [h4] at hj; cases hj
 by_cases h5 : o.kind = 5
 ·rw [h5] at hj; cases hj
 by_cases h6 : o.kind = 6
 ·rw [h6] at hj; cases hj
 by_cases h7 : o.kind = 7
 ·rw [h7] at hj; cases hj
 rw [if_neg h1, if_neg h2, if_neg h3, if_neg h4, if_neg h5, if_neg h6, if_neg h7]
end Go.Proofs.YteohlpmojfjjdaaGreat.Nfa
end
section
namespace Go.Proofs.YteohlpmojfjjdaaGreat.Nfa
open Go.RowKit Go.Proofs.YteohlpmojfjjdaaGreat.Ord
open Reg (Ov oflat Sp sflat Rop setCells3)
theorem opL_bs {o : Rop} {p q : Lw} (h : opL o p = some q) : q.bs.length ≤ p.bs.length + 1 := by
 unfold opL at h
 split at h
 ·cases h; simp [Lw.emit, ins_bs, Lw.push]
 split at h
 ·cases h; simp [Lw.push]
 split at h
 ·split at h
  ·rename_i b a r e
   cases h; rw [e]; simp
  ·cases h
 split at h
 ·split at h
  ·rename_i b a r e
   cases h; rw [e]; simp [ins_bs]
  ·cases h
 split at h
 ·split at h
  ·cases h; simp [Lw.emit, ins_bs]
  ·cases h
 split at h
 ·split at h
  ·cases h; simp [Lw.emit, ins_bs]
  ·cases h
 split at h
 ·split at h
  ·cases h; simp [ins_bs]
  ·cases h
 ·cases h
theorem semL_bs : ∀ (l : List Rop) {p q : Lw}, semL p l = some q → q.bs.length ≤ p.bs.length + l.length
 | [], p, q, h => by cases h; simp
 | o :: l, p, q, h => by
  unfold semL at h
  split at h
  ·cases h
  ·rename_i p' e
   have h1 := opL_bs e
   have h2 := semL_bs l h
   simp only [List.length_cons]; omega
theorem run_enter {P : Program} {f : FuncId} {fn : Func} {c : Code} (hf : P.funcs[f]? = some fn) (hname : (fn.name == "runtime.NumGoroutine") = false) (hb : fn.body = some c) (args : Array Value) (w : World) : (callFunc f args).run P w = .ok (.enter f args) w := by
 have h1 : ¬ fn.name = "runtime.NumGoroutine" := by simpa using hname
 simp [callFunc, hf, h1, hb]
theorem run_maker {k : Int} {j : FuncId} (h : mkF k = some j) (args : Array Value) (w : World) : (callFunc j args).run Tryz.prog w = .ok (.enter j args) w := by
 unfold mkF at h
 split at h
 ·cases h
  exact run_enter Tryz.func174 (by kernel_rfl) rfl args w
 split at h
 ·cases h
  exact run_enter Tryz.func173 (by kernel_rfl) rfl args w
 split at h
 ·cases h
  exact run_enter Tryz.func172 (by kernel_rfl) rfl args w
 split at h
 ·cases h
  exact run_enter Tryz.func171 (by kernel_rfl) rfl args w
 split at h
 ·cases h
  exact run_enter Tryz.func170 (by kernel_rfl) rfl args w
 split at h
 ·cases h
  exact run_enter Tryz.func169 (by kernel_rfl) rfl args w
 split at h
 ·cases h
  exact run_enter Tryz.func168 (by kernel_rfl) rfl args w
 ·cases h
def XSays (w0 w : World) (s : Nat) (l : List Rop) (e : Ending) (w' : World) : Prop := match semL ⟨[], [], false⟩ l with
 | none => e = .returned (.bool false) ∧ Below w0.heap.size w0 w'
 | some q => e = .returned (.bool (decide (q.bs.length = 1))) ∧ Sq w0 w' s q
theorem semL_cut {p : Lw} {us : List Ov} {i : Nat} (h : semL p ((us.take i).map (·.o)) = none) : semL p (us.map (·.o)) = none := by
 rw [← List.take_append_drop i us, List.map_append, semL_append, h]
theorem xsays_none {w0 w w' : World} {s : Nat} {l : List Rop} (h : semL ⟨[], [], false⟩ l = none) (hb : Below w0.heap.size w0 w') : XSays w0 w s l (.returned (.bool false)) w' := by
 unfold XSays; rw [h]; exact ⟨rfl, hb⟩
theorem xsays_some {w0 w w' : World} {s : Nat} {l : List Rop} {q : Lw} {b : Bool} (h : semL ⟨[], [], false⟩ l = some q) (hq : Sq w0 w' s q) (hb : b = decide (q.bs.length = 1)) : XSays w0 w s l (.returned (.bool b)) w' := by
 unfold XSays; rw [h, hb]; exact ⟨rfl, hq⟩
theorem execute_call (w0 w : World) (s : Nat) (h : Sq w0 w s ⟨[], [], false⟩) (A : Option Addr) (n c : Nat) (us : List Ov) (hp : Pr8 w0 A us) (hl : us.length = n) (hn : n ≤ 100000) (hk : ∀ u ∈ us, -9223372036854775808 ≤ u.o.kind ∧ u.o.kind < 9223372036854775808) :
  Calls Tryz.prog 138 #[.pointer (some ⟨s, 0, none⟩), .slice A n c] w (XSays w0 w s (us.map (·.o))) := by
 have con := makers_call w
 have H := Lib.hid h
 have HP := Lib.hid hp
 have HL := Lib.hid hl
 have HK := Lib.hid hk
 clear h hp hl hk
 go_enter Tryz.func138, Tryz.ntmps138
 go_wp2_with fail
 refine con.mono ?_
 rintro e w1 ⟨rfl, hm, hb⟩
 obtain ⟨b, hbb⟩ : ∃ b, b = w.heap.size := ⟨_, rfl⟩
 rw [← hbb] at hm ⊢
 have HM := Lib.hid hm
 have HQ := Lib.hid (H.out.below hb)
 clear hm hb hbb
 go_wp2_with fail
 go_loopw [13] (fun v13 wr => ∃ (i : Nat) (q : Lw), i ≤ n ∧ v13 = .int .i64 (i : Int) ∧ semL ⟨[], [], false⟩ ((us.take i).map (·.o)) = some q ∧ Sq w0 wr s q ∧ Mk wr b 7 mkF) (fun v13 _ => n - (intOf v13).toNat)
 case atStart => exact ⟨0, _, Nat.zero_le _, rfl, rfl, HQ.out, HM.out⟩
 case round =>
  obtain ⟨i, q, hi, rfl, hs, hq, hm⟩ := hrel
  obtain ⟨W0, rfl⟩ : ∃ W0, W0 = wr := ⟨_, rfl⟩
  have HS := Lib.hid hs
  have HQ := Lib.hid hq
  have HM := Lib.hid hm
  clear hs hq hm
  rcases Nat.lt_or_ge i n with hlt | hge
  ·obtain ⟨u, hu⟩ : ∃ u, us[i]? = some u := ⟨_, List.getElem?_eq_getElem (by rw [HL.out]; exact hlt)⟩
   obtain ⟨ad, rfl, k0, k1, k2⟩ := cz_three (HP.out.ry.below (HQ.out.low)) hu
   have HSP := Lib.hid (HP.out.sp u (List.mem_of_getElem? hu))
   have hkr := HK.out u (List.mem_of_getElem? hu)
   have HU := Lib.hid (show (us.take (i + 1)).map (·.o) = (us.take i).map (·.o) ++ [u.o] by rw [take_snocO us i u hu, List.map_append]; rfl)
   clear hu
   obtain ⟨W1, hW1⟩ : ∃ W1, W1 = W0.alloc (.cells #[.int .i64 u.o.kind, .bool u.o.neg, .slice u.A u.o.sp.length u.c] 223) := ⟨_, rfl⟩
   have hc1 : Cel W1 W0.heap.size 223 [.int .i64 u.o.kind, .bool u.o.neg, .slice u.A u.o.sp.length u.c] := by rw [hW1]; exact Cel.new W0 _ _
   have hb1 : Below W0.heap.size W0 W1 := by rw [hW1]; exact (Below.refl _ _).alloc (Nat.le_refl _) _
   have HQ1 := Lib.hid (HQ.out.below hb1)
   have HM1 := Lib.hid (HM.out.below hb1)
   have hlook := HM1.out.look u.o.kind hkr
   have x0 := hc1.cell 0
   have x1 := hc1.cell 1
   have x2 := hc1.cell 2
   have hlen : q.bs.length ≤ 100000 := by
    have := semL_bs _ HS.out
    simp only [List.length_nil, List.length_map, List.length_take] at this
    omega
   rw [hW1] at hlook x0 x1 x2
   clear hc1 hb1
   cases hf : mkF u.o.kind with
   | none =>
    rw [hf] at hlook
    have hno := semL_cut (i := i + 1) (show semL ⟨[], [], false⟩ ((us.take (i + 1)).map (·.o)) = none by rw [HU.out, semL_snoc _ HS.out, op_none _ _ hf])
    have HX := Lib.hid (fun W => xsays_none (w := w) (w' := W) (s := s) (w0 := w0) hno)
    have HLOW := Lib.hid HQ1.out.low
    rw [hW1] at HLOW
    clear hf hno
    go_wp2_with fail
    go_ret
    exact HX.out _ HLOW.out
   | some j =>
    rw [hf] at hlook
    have con := op_call w0 W1 s q HQ1.out hlen u.o u.A u.o.sp.length u.c HSP.out rfl j hf
    rw [hW1] at con
    simp only [fv] at hlook
    have henter := fun args W => run_maker hf args W
    clear hf
    have HW1 := Lib.hid hW1
    go_wp2_with fail
    refine con.mono ?_
    intro e w2 hms
    cases hop : opL u.o q with
    | none =>
     rw [hop] at hms
     obtain ⟨rfl, hb2, hw2⟩ := hms
     have hno := semL_cut (i := i + 1) (show semL ⟨[], [], false⟩ ((us.take (i + 1)).map (·.o)) = none by rw [HU.out, semL_snoc _ HS.out, hop])
     have HX := Lib.hid (xsays_none (w := w) (w' := w2) (s := s) (w0 := w0) hno hb2)
     clear hno hb2 hw2 hop con
     go_wp2_with fail
     go_ret
     exact HX.out
    | some q' =>
     rw [hop] at hms
     obtain ⟨rfl, hq2, hw2⟩ := hms
     have HQ2 := Lib.hid hq2
     have HS2 := Lib.hid (show semL ⟨[], [], false⟩ ((us.take (i + 1)).map (·.o)) = some q' by rw [HU.out, semL_snoc _ HS.out, hop])
     have HM2 := Lib.hid (HM1.out.wr (by rw [HW1.out]; exact hw2))
     clear hq2 hw2 hop con
     go_wp2_with fail
     exact ⟨⟨i + 1, q', by omega, by rw [show ((i + 1 : Nat) : Int) = (i : Int) + 1 by omega], HS2.out, HQ2.out, HM2.out⟩, by simp [intOf]; omega⟩
  ·obtain rfl : i = n := by omega
   have hall : semL ⟨[], [], false⟩ (us.map (·.o)) = some q := by
    have := HS.out
    rwa [List.take_of_length_le (by rw [HL.out]; exact Nat.le_refl _)] at this
   obtain ⟨Ac, cc, Ab, cb, vs, _, _, h3⟩ := HQ.out.ex
   obtain ⟨m, hm⟩ : ∃ m, m = q.bs.length := ⟨_, rfl⟩
   rw [← hm] at h3
   have c1 := h3.cel.cell 1
   have HX := Lib.hid (fun (b : Bool) (hb : b = decide (q.bs.length = 1)) => xsays_some (w := w) (w0 := w0) hall HQ.out hb)
   have HMM := Lib.hid hm
   clear h3 hall hm
   have d1 : ((m : Int) == 1) = decide (m = 1) := by by_cases h : m = 1 <;> simp [h] <;> omega
   go_wp2_with fail
   go_ret
   refine HX.out _ ?_
   rw [← HMM.out]
end Go.Proofs.YteohlpmojfjjdaaGreat.Nfa
end
section
namespace Go.Proofs.YteohlpmojfjjdaaGreat.Nfa
open Go.RowKit Go.Proofs.YteohlpmojfjjdaaGreat.Ord
open Reg (Sp sflat sflat_length Rop Spn rowSpan)
theorem own_put {base e size n cap g : Nat} {w : World} {xs : List Value} (h : w.ownsRow base e size (.slice (some ⟨g, 0, none⟩) n cap) n xs) (o : Nat) (u : Value) : (w.setCell ⟨g, o, none⟩ u).ownsRow base e size (.slice (some ⟨g, 0, none⟩) n cap) n (xs.set o u) := by
 refine ⟨by rw [List.length_set]; exact h.1, .inr ?_⟩
 rcases h.2 with ⟨hv, _⟩ | ⟨g', cap', cur, hv, hb, hc, h1, h2, h3, h4⟩
 ·cases hv
 ·cases hv
  obtain ⟨cs, rfl⟩ : ∃ cs : List Value, cur = cs.toArray := ⟨cur.toList, by simp⟩
  have hs := Cel.set (show Cel w g e cs from hc) o u
  refine ⟨g, cap, _, rfl, hb, hs, h1, h2, by simpa using h3, ?_⟩
  rw [← h4]
  simp [List.take_set]
theorem iflat_set (us : List Iv) (i : Nat) (u : Iv) (A' : Option Addr) (c' : Nat) (h : us[i]? = some u) : (iflat us).set (i * 5 + 4) (.slice A' u.i.sp.length c') = iflat (us.set i ⟨u.i, A', c'⟩) := by
 induction us generalizing i with
 | nil => simp at h
 | cons v l ih =>
  have h5 : v.cells.length = 5 := rfl
  show (v.cells ++ iflat l).set _ _ = _
  cases i with
  | zero =>
   simp at h; subst h
   rw [List.set_append_left _ _ (by omega)]
   rfl
  | succ i =>
   rw [List.set_append_right _ _ (by omega), h5, show (i + 1) * 5 + 4 - 5 = i * 5 + 4 by omega, ih i (by simpa using h)]
   rfl
theorem iflat_at {us : List Iv} {i : Nat} {u : Iv} (h : us[i]? = some u) {k : Nat} (hk : k < 5) : (iflat us)[i * 5 + k]? = u.cells[k]? := Nfa.flat_at Iv.cells 5 (fun _ => rfl) us i k u h hk
theorem own_cel {base e size n c : Nat} {w : World} {A : Option Addr} {xs : List Value} (h : w.ownsRow base e size (.slice A n c) n xs) (hn : 0 < n) : ∃ g cs, A = some ⟨g, 0, none⟩ ∧ Cel w g e cs ∧ n ≤ c ∧ base ≤ g := by
 rcases h.2 with ⟨hv, _⟩ | ⟨g, cap, cur, hv, hb, hc, h1, _⟩
 ·cases hv; omega
 ·cases hv
  obtain ⟨cs, rfl⟩ : ∃ cs : List Value, cur = cs.toArray := ⟨cur.toList, by simp⟩
  exact ⟨g, cs, rfl, hc, h1, hb⟩
theorem cz_src {w : World} {A : Option Addr} {l : List Sp} (h : Cz w A (sflat l)) : Src w A l.length (sflat l) := fun hl => h (fun e => by have := congrArg List.length e; rw [sflat_length, List.length_nil] at this; omega)
def CSays (w : World) (B n c : Nat) (A : Option Addr) (us : List Iv) (e : Ending) (w' : World) : Prop :=
 e = .returned (.tuple #[]) ∧ ∃ vs, vs.map (·.i) = us.map (·.i) ∧ w'.ownsRow B 204 5 (.slice A n c) n (iflat vs) ∧ (∀ u ∈ vs, Spn w' u.A u.i.sp) ∧ w.grownBy w' (Value.slice A n c).ownBlock
theorem copy_call (w0 w : World) (n c : Nat) (A : Option Addr) (us : List Iv) (hown : w.ownsRow w0.heap.size 204 5 (.slice A n c) n (iflat us)) (hl : us.length = n) (hn : n ≤ 1000) (hlow : Below w0.heap.size w0 w) (hsp : ∀ u ∈ us, Cz w0 u.A (sflat u.i.sp) ∧ u.i.sp.length ≤ 1000) :
  Calls Tryz.prog 140 #[.slice A n c] w (CSays w w0.heap.size n c A us) := by
 have HO := Lib.hid hown
 have HL := Lib.hid hl
 have HLOW := Lib.hid hlow
 have HSP := Lib.hid hsp
 clear hown hl hlow hsp
 go_enter Tryz.func140, Tryz.ntmps140
 go_wp2_with fail
 go_loopw [2, 5] (fun v2 v5 wr => ∃ (i : Nat) (vs : List Iv), i ≤ n ∧ v5 = .int .i64 (i : Int) ∧ vs.map (·.i) = us.map (·.i) ∧ vs.drop i = us.drop i ∧ wr.ownsRow w0.heap.size 204 5 (.slice A n c) n (iflat vs) ∧ (∀ u ∈ vs.take i, Spn wr u.A u.i.sp) ∧ w.grownBy wr (Value.slice A n c).ownBlock) (fun _ v5 _ => n - (intOf v5).toNat)
 case atStart => exact ⟨0, us, Nat.zero_le _, rfl, rfl, rfl, HO.out, by simp, World.grownBy.refl _ _⟩
 case round =>
  obtain ⟨i, vs, hi, rfl, hvs, hdr, hor, hsn, hgr⟩ := hrel
  obtain ⟨W0, rfl⟩ : ∃ W0, W0 = wr := ⟨_, rfl⟩
  have HVS := Lib.hid hvs
  have HDR := Lib.hid hdr
  have HOR := Lib.hid hor
  have HSN := Lib.hid hsn
  have HGR := Lib.hid hgr
  clear hvs hdr hor hsn hgr
  rcases Nat.lt_or_ge i n with hlt | hge
  ·obtain ⟨u, hu⟩ : ∃ u, us[i]? = some u := ⟨_, List.getElem?_eq_getElem (by rw [HL.out]; exact hlt)⟩
   have hvu : vs[i]? = some u := by
    have e1 : (vs.drop i)[0]? = (us.drop i)[0]? := by rw [HDR.out]
    rw [List.getElem?_drop, List.getElem?_drop, Nat.add_zero, hu] at e1
    exact e1
   obtain ⟨hcz, hsl⟩ := HSP.out u (List.mem_of_getElem? hu)
   have hlow : Below w0.heap.size w0 W0 := HLOW.out.trans ⟨HGR.out.os, HGR.out.tape, HGR.out.output, HGR.out.size, fun k hk => HGR.out.block k (Nat.lt_of_lt_of_le hk HLOW.out.size) fun e => by have := own_ge HO.out k e.symm; omega⟩
   obtain ⟨g, cs, rfl, hcel, hnc, hgB⟩ := own_cel HOR.out (by omega)
   have hil : i * 5 + 4 < n * 5 := by omega
   have k4 : W0.cell? ⟨g, i * 5 + 4, none⟩ = some (.slice u.A u.i.sp.length u.c) := by
    rw [HOR.out.cellAt _ hil, iflat_at hvu (by decide)]; rfl
   have hwz : w0.heap.size ≤ W0.heap.size := hlow.size
   have HC := Lib.hid hcel
   have HVU := Lib.hid hvu
   have HCZ := Lib.hid (hcz.below hlow)
   clear hu hvu hcz hlow hcel
   go_wp2_with ((at_builtin; refine wpList_append_any _ rfl _ _ 202 rfl w0.heap.size 245 rowSpan (.slice none 0 0) 0 [] rfl (World.ownsRow_nil _ _ _ _) u.A u.i.sp.length u.c (sflat u.i.sp) rfl (sflat_length _) (cz_src HCZ.out) (Reg.sflat_one _) u.i.sp.length (sflat u.i.sp) (Nat.zero_add _) (List.nil_append _) (by unfold maxLen; omega) (by omega) hwz ?_; intro A8 c8 w8 ho8 hg8 _; have h8 := HC.out.grown hg8 (by simp [Value.ownBlock]); have f8 := h8.free (i * 5 + 4); have k8 := (h8.cell (i * 5 + 4)).trans ((HC.out.cell (i * 5 + 4)).symm.trans k4); have HO8 := Lib.hid ho8; have HG8 := Lib.hid hg8; have HC8 := Lib.hid h8; clear h8 ho8 hg8))
   have hog : W0.grownBy (w8.setCell ⟨g, i * 5 + 4, none⟩ (.slice A8 u.i.sp.length c8)) (some g) := ⟨HG8.out.os, HG8.out.tape, HG8.out.output, by simpa [World.setCell] using HG8.out.size, fun k hk hne => (Below.heap_setCell _ _ _ _ (fun e => hne (by rw [e]))).trans (HG8.out.block k hk (by simp [Value.ownBlock]))⟩
   have hrow8 : w8.ownsRow w0.heap.size 204 5 (.slice (some ⟨g, 0, none⟩) n c) n (iflat vs) := own_frm (l := []) HOR.out ((Frm.refl _ _).grown HG8.out (fun g e => by simp [Value.ownBlock] at e)) (by simp)
   have hrow9 := own_put hrow8 (i * 5 + 4) (.slice A8 u.i.sp.length c8)
   rw [iflat_set vs i u A8 c8 HVU.out] at hrow9
   have hil2 : i < vs.length := (List.getElem?_eq_some_iff.1 HVU.out).1
   refine ⟨⟨i + 1, vs.set i ⟨u.i, A8, c8⟩, by omega, by rw [show ((i + 1 : Nat) : Int) = (i : Int) + 1 by omega], ?_, ?_, hrow9, ?_, HGR.out.trans hog⟩, by simp [intOf]; omega⟩
   ·rw [List.map_set, ← HVS.out]
    refine List.ext_getElem? fun j => ?_
    by_cases e : i = j
    ·subst e
     rw [List.getElem?_set_self (by rw [List.length_map]; exact hil2), List.getElem?_map, HVU.out]; rfl
    ·rw [List.getElem?_set_ne e]
   ·rw [List.drop_set_of_lt (Nat.lt_succ_self i)]
    have e1 : (vs.drop i).drop 1 = (us.drop i).drop 1 := by rw [HDR.out]
    rwa [List.drop_drop, List.drop_drop] at e1
   ·intro v hv
    rw [List.take_set, List.take_add_one, HVU.out] at hv
    have hlt9 : (vs.take i).length = i := by rw [List.length_take]; omega
    rw [List.set_append_right _ _ (by omega), hlt9, Nat.sub_self] at hv
    rcases List.mem_append.1 hv with hv | hv
    ·exact Ry.set (Ry.grown (HSN.out v hv) HG8.out (by simp [Value.ownBlock])) (HC8.out.not_ty (by decide)) _
    ·simp at hv
     subst hv
     exact Ry.set (Ry.of_own HO8.out (by decide)) (HC8.out.not_ty (by decide)) _
  ·obtain rfl : i = n := by omega
   go_wp2_with fail
   go_end0
   exact ⟨rfl, vs, HVS.out, HOR.out, fun u hu => HSN.out u (by rw [List.take_of_length_le (by have := congrArg List.length HVS.out; simp only [List.length_map] at this; rw [this, HL.out]; exact Nat.le_refl _)]; exact hu), HGR.out⟩
end Go.Proofs.YteohlpmojfjjdaaGreat.Nfa
end
section
namespace Go.Proofs.YteohlpmojfjjdaaGreat.Nfa
open Go.RowKit Go.Proofs.YteohlpmojfjjdaaGreat.Ord
open Reg (Ov oflat Sp sflat sflat_length Rop Spn rowSpan)
theorem ins_mem {q : Lw} {a : Nat} {y x : In} (h : x ∈ (q.ins a y).code) : x ∈ q.code ∨ x = y := by
 unfold Lw.ins at h
 split at h
 ·exact .inl h
 ·rcases List.mem_append.1 h with h | h
  ·exact .inl (List.mem_of_mem_take h)
  ·rcases List.mem_cons.1 h with h | h
   ·exact .inr h
   ·exact .inl (List.mem_of_mem_drop h)
theorem opL_sp {o : Rop} {p q : Lw} {M : Nat} (h : opL o p = some q) (ho : o.sp.length ≤ M) (hp : ∀ x ∈ p.code, x.sp.length ≤ M) : ∀ x ∈ q.code, x.sp.length ≤ M := by
 have h2 : ∀ {r : Lw} {a : Nat} {y : In}, (∀ x ∈ r.code, x.sp.length ≤ M) → y.sp.length ≤ M → ∀ x ∈ (r.ins a y).code, x.sp.length ≤ M := fun hr hy x hx => by
  rcases ins_mem hx with hx | rfl
  ·exact hr x hx
  ·exact hy
 have h0 : ∀ x y : Int, (two x y).sp.length ≤ M ∧ (go x).sp.length ≤ M := fun x y => ⟨Nat.zero_le _, Nat.zero_le _⟩
 unfold opL at h
 split at h
 ·cases h; exact h2 hp ho
 split at h
 ·cases h; exact hp
 split at h
 ·split at h
  ·cases h; exact hp
  ·cases h
 split at h
 ·split at h
  ·cases h; exact h2 (h2 hp (h0 _ 0).2) (h0 _ _).1
  ·cases h
 split at h
 ·split at h
  ·cases h; exact h2 (h2 hp (h0 _ _).1) (h0 _ 0).2
  ·cases h
 split at h
 ·split at h
  ·cases h; exact h2 hp (h0 _ _).1
  ·cases h
 split at h
 ·split at h
  ·cases h; exact h2 hp (h0 _ _).1
  ·cases h
 ·cases h
theorem semL_sp {M : Nat} : ∀ (l : List Rop) {p q : Lw}, semL p l = some q → (∀ o ∈ l, o.sp.length ≤ M) → (∀ x ∈ p.code, x.sp.length ≤ M) → ∀ x ∈ q.code, x.sp.length ≤ M
 | [], p, q, h, _, hp => by cases h; exact hp
 | o :: l, p, q, h, ho, hp => by
  unfold semL at h
  split at h
  ·cases h
  ·rename_i p' e
   exact semL_sp l h (fun x hx => ho x (List.mem_cons_of_mem _ hx)) (opL_sp e (ho o (by simp)) hp)
def BSays (w : World) (r : Except Nat (List In)) (e : Ending) (w' : World) : Prop := Below w.heap.size w w' ∧ match r with
 | .error k => e = .returned (.tuple #[.slice none 0 0, .int .i64 (k : Int)])
 | .ok l => ∃ A' c' vs, e = .returned (.tuple #[.slice A' l.length c', .int .i64 0]) ∧ vs.map (·.i) = l ∧ w'.ownsRow w.heap.size 204 5 (.slice A' l.length c') l.length (iflat vs) ∧ ∀ u ∈ vs, Spn w' u.A u.i.sp
theorem bsays_err {w w' : World} {r : Except Nat (List In)} {k : Nat} (hr : r = .error k) (hb : Below w.heap.size w w') : BSays w r (.returned (.tuple #[.slice none 0 0, .int .i64 (k : Int)])) w' := by
 subst hr; exact ⟨hb, rfl⟩
theorem build_call (w : World) (A : Option Addr) (n c : Nat) (us : List Ov) (hp : Pr8 w A us) (hl : us.length = n) (hn : n ≤ 100000) (hk : ∀ u ∈ us, -9223372036854775808 ≤ u.o.kind ∧ u.o.kind < 9223372036854775808) (hsp : ∀ u ∈ us, u.o.sp.length ≤ 1000) :
  Calls Tryz.prog 106 #[.slice A n c] w (BSays w (build (us.map (·.o)))) := by
 obtain ⟨s, hs⟩ : ∃ s, s = w.heap.size := ⟨_, rfl⟩
 obtain ⟨W, hW⟩ : ∃ W, W = w.alloc (.cells #[.slice none 0 0, .slice none 0 0, .bool false] 199) := ⟨_, rfl⟩
 have hb0 : Below w.heap.size w W := by rw [hW]; exact (Below.refl _ _).alloc (Nat.le_refl _) _
 have hq0 : Sq w W s ⟨[], [], false⟩ := ⟨⟨by decide, by simp⟩, none, 0, none, 0, [], rfl, by simp, hb0, by omega, by rw [hs, hW]; exact Cel.new w _ _, World.ownsRow_nil _ _ _ _, World.ownsRow_nil _ _ _ _⟩
 have con := execute_call w W s hq0 A n c us hp hl hn hk
 rw [hs, hW] at con
 have HLO := Lib.hid (build_low (us.map (·.o)))
 have HSP := Lib.hid (show ∀ o ∈ us.map (·.o), o.sp.length ≤ 1000 from fun o ho => by obtain ⟨u, hu, rfl⟩ := List.mem_map.1 ho; exact hsp u hu)
 have HS := Lib.hid hs
 clear hp hl hk hsp hb0 hq0 hs
 go_enter Tryz.func106, Tryz.ntmps106
 go_wp2_with fail
 refine con.mono ?_
 clear con hW
 intro e w1 hx
 unfold XSays at hx
 cases hsem : semL ⟨[], [], false⟩ (us.map (·.o)) with
 | none =>
  rw [hsem] at hx
  obtain ⟨rfl, hb⟩ := hx
  have HX := Lib.hid (bsays_err (r := build (us.map (·.o))) (k := 1) (by rw [HLO.out, hsem]) hb)
  clear hb hsem
  go_wp2_with fail
  go_ret2
  exact HX.out
 | some q =>
  rw [hsem] at hx
  obtain ⟨rfl, hq1⟩ := hx
  rw [← HS.out] at hq1 ⊢
  have hfin : build (us.map (·.o)) = finL q := by rw [HLO.out, hsem]
  unfold finL at hfin
  by_cases h1 : q.bs.length = 1
  ·rw [if_pos h1] at hfin
   rw [decide_eq_true h1]
   have con2 := emit_call w w1 s q hq1 4 0 0 false none [] 0 0 (cz_nil _ _) rfl
   have HSQ := Lib.hid (semL_sp _ hsem HSP.out (by simp))
   have HFIN := Lib.hid hfin
   clear hq1 h1 hsem hfin
   go_wp2_with fail
   refine con2.mono ?_
   rintro e w2 ⟨rfl, hq2, hw2⟩
   have hq2 : Sq w w2 s (q.emit doneI) := hq2
   have hmem : ∀ x ∈ (q.emit doneI).code, x.sp.length ≤ 1000 := fun x hx => by
    rcases ins_mem hx with hx | rfl
    ·exact HSQ.out x hx
    ·exact Nat.zero_le _
   have hfin := HFIN.out
   generalize q.emit doneI = r at *
   obtain ⟨Ac, cc, Ab, cb, vs, hv1, hv2, h3⟩ := hq2.ex
   have c0 := h3.cel.cell 0
   have c2 := h3.cel.cell 2
   have hlow := h3.low
   have hrl := hq2.ok.len
   cases hbig : r.big with
   | true =>
    rw [hbig] at c2 hfin
    have HX := Lib.hid (bsays_err hfin hlow)
    clear h3 hq2 hw2 hmem hv1 hv2 hlow c0 con2
    go_wp2_with fail
    go_ret2
    exact HX.out
   | false =>
    rw [hbig] at c2 hfin h3
    obtain ⟨m, hm⟩ : ∃ m, m = r.code.length := ⟨_, rfl⟩
    rw [← hm] at c0 h3 hrl
    have hvl : vs.length = m := by rw [hm, ← hv1, List.length_map]
    have con3 := copy_call w w2 m cc Ac vs h3.code hvl (by omega) hlow (fun u hu => ⟨hv2 u hu, hmem _ (by rw [← hv1]; exact List.mem_map_of_mem hu)⟩)
    have H3 := Lib.hid h3
    have HLOW := Lib.hid hlow
    have HM := Lib.hid hm
    have HV1 := Lib.hid hv1
    have HF := Lib.hid hfin
    clear h3 hq2 hw2 hmem hv1 hv2 hlow con2 hm hvl hfin HFIN
    go_wp2_with fail
    refine con3.mono ?_
    rintro e w4 ⟨rfl, vs4, hi4, ho4, hs4, hg4⟩
    have h4 := H3.out.cel.grown hg4 (own_ty_ne H3.out.code H3.out.cel (by decide))
    have c0 := h4.cell 0
    have HB4 := Lib.hid (HLOW.out.trans (show Below w.heap.size w2 w4 from ⟨hg4.os, hg4.tape, hg4.output, hg4.size, fun k hk => hg4.block k (Nat.lt_of_lt_of_le hk HLOW.out.size) fun e => by have := own_ge H3.out.code k e.symm; omega⟩))
    have HI4 := Lib.hid hi4
    have HO4 := Lib.hid ho4
    have HS4 := Lib.hid hs4
    clear h4 hi4 ho4 hs4 hg4 con3
    go_wp2_with fail
    go_ret2
    rw [HF.out]
    exact ⟨HB4.out, Ac, cc, vs4, by rw [← HM.out]; rfl, by rw [HI4.out, HV1.out], by rw [← HM.out]; exact HO4.out, HS4.out⟩
  ·rw [if_neg h1] at hfin
   rw [decide_eq_false h1]
   have HX := Lib.hid (bsays_err hfin hq1.low)
   clear hq1 h1 hsem hfin
   go_wp2_with fail
   go_ret2
   exact HX.out
end Go.Proofs.YteohlpmojfjjdaaGreat.Nfa
end
section
namespace Go.Proofs.YteohlpmojfjjdaaGreat.Nfa
open Go.RowKit Go.Proofs.YteohlpmojfjjdaaGreat.Ord
open Reg (Ov oflat Sp sflat sflat_length Rop Spn Ows parse parse_top parse_good parse_sp piled_kinds ParseSays)
theorem Pr8.of_ows {w : World} {B n c : Nat} {A : Option Addr} {l : List Rop} (h : Ows w B (.slice A n c) l) (hn : l.length = n) : ∃ us : List Ov, us.map (·.o) = l ∧ us.length = n ∧ Pr8 w A us := by
 obtain ⟨us, ho, hm, hs⟩ := h.row
 rw [hn] at ho
 exact ⟨us, hm, by rw [← hn, ← hm, List.length_map], ⟨cz_ry (Ry.of_own ho (by decide)), fun u hu => cz_ry (hs u hu)⟩⟩
end Go.Proofs.YteohlpmojfjjdaaGreat.Nfa
end
