/-
  The program's cutter (layer 11): what a word's and a number's byte does; the state of both.
-/
import Derived.Test.YtadfoilbcipdjaaLexSmall
namespace Go.Proofs.Ytadfoilbcipdjaa.Lex
open Go.RowKit
set_option linter.unusedVariables false
set_option linter.unusedSimpArgs false

section
variable {w : World} {D K g : Nat} {E : Value} {p z : Int} {us : List Tv} {x : Tv}
set_option maxRecDepth 100000 in
set_option maxHeartbeats 1000000 in
theorem word_more {r : Nat} (h : Ml w D K g E p z us x r) (b : BitVec 8) (hm : us.length ≤ 100000) (ok : Bool) (hok : ok = decide (x.t.t.text.length + 1 ≤ 20)) (hl : x.t.t.text.length ≤ 100000) :
    Calls Try.prog 46 #[.pointer (some ⟨r, us.length * 4, none⟩), v8 b] w (AdSays w D K g E p z us x b r (.bool ok)) := by
  obtain ⟨⟨⟨xk, xn, t⟩, xa⟩, xA, xc⟩ := x
  have HH := Lib.hid h
  replace hok : ok = decide (t.length + 1 ≤ 20) := hok
  replace hl : t.length ≤ 100000 := hl
  generalize hml : t.length = m at *
  have HOK := Lib.hid hok
  have HML := Lib.hid hml
  obtain ⟨n, hn⟩ : ∃ n, n = us.length := ⟨_, rfl⟩
  have HN := Lib.hid hn
  rw [← hn] at hm ⊢
  have k0 : w.cell? ⟨r, n * 4 + 3, none⟩ = some (.slice xA m xc) := by rw [HN.out, ← HML.out]; exact h.at_ (i := 3) (by decide) rfl
  have hb1 : Below w.heap.size w (w.alloc (.cells #[v8 b] 5)) := (Below.refl _ _).alloc (Nat.le_refl _) _
  have HO1 := Lib.hid (show Owb (w.alloc (.cells #[v8 b] 5)) K xA m xc t by rw [← HML.out]; exact (h.below hb1).mc.new _ (List.mem_singleton.2 rfl))
  have HM1 := Lib.hid (h.below hb1)
  have HB1 := Lib.hid hb1
  have HK := Lib.hid h.mc.top
  clear h hml hn hb1 hok
  go_enter Try.func46, Try.ntmps46
  go_wp2_with ((at_builtin; refine wpList_append_bs _ rfl _ _ 22 rfl K 5 rowB (.slice xA m xc) m t rfl HO1.out (w.heap.size + 1) (some ⟨w.heap.size, 0, none⟩) 1 1 [b] rfl (lit_one w b) (m + 1) (t ++ [b]) rfl rfl (by omega) (Nat.le_trans HK.out HB1.out.size) ?_; intro A3 c3 w3 o3 g3 _; obtain ⟨k3, f3, hm3, hc3⟩ := text_grew HM1.out HML.out g3 o3; rw [← HN.out] at k3 f3 hm3 hc3; have HM3 := Lib.hid hm3; have HC3 := Lib.hid hc3; clear o3 g3 hm3 hc3))
  go_ret
  refine ⟨?_, A3, c3, HM3.out, (Chl.of_below HB1.out).trans HC3.out⟩
  show Ending.returned (Value.bool (decide ((m : Int) + 1 ≤ 20))) = _
  congr 2
  rw [HOK.out]
  exact decide_eq_decide.2 (by omega)
/-- Behind a write to a block of numbers. -/
theorem Ml.other {r dg : Nat} {cs : List Value} (h : Ml w D K g E p z us x r) (hd : Cel w dg 3 cs) (u : Value) : Ml (w.setCell ⟨dg, 0, none⟩ u) D K g E p z us x r := by
  obtain ⟨c, hc, ho⟩ := h.row
  have hf : Frm [dg] w (w.setCell ⟨dg, 0, none⟩ u) := (Frm.refl [dg] w).set (by simp) _
  have hc2 : Pcc (w.setCell ⟨dg, 0, none⟩ u) g E (some ⟨r, 0, none⟩) (us.length + 1) c p z := Cel.frm hc hf (by simp; exact Cel.ne hc hd (by decide))
  have ho2 := own_frm ho hf (fun k hk => by rw [List.mem_singleton.1 hk]; exact own_ty_ne ho hd (by decide))
  exact ⟨⟨h.mc.low, Nat.le_trans h.mc.top hf.size, h.mc.gD, ⟨_, c, hc2, ho2⟩, fun v hv => (h.mc.old v hv).set _ (.inr (Cel.not_ty hd (by decide))), fun v hv => own_frm (h.mc.new v hv) hf (fun k hk => by rw [List.mem_singleton.1 hk]; exact own_ty_ne (h.mc.new v hv) hd (by decide))⟩, c, hc2, ho2⟩
def withN (x : Tv) (n : Int) : Tv := ⟨⟨⟨x.t.t.kind, n, x.t.t.text⟩, x.t.at_⟩, x.A, x.c⟩
def NuSays (w : World) (D K g : Nat) (E : Value) (p z : Int) (us : List Tv) (x : Tv) (n : Int) (r dg d : Nat) (ok : Bool) (e : Ending) (w' : World) : Prop := e = .returned (.bool ok) ∧ Ml w' D K g E p z us (withN x n) r ∧ Cel w' dg 3 [.int .i64 (d : Int)] ∧ Chl D w w'
theorem num_facts {r dg d : Nat} (h : Ml w D K g E p z us x r) (hD : D ≤ dg) (hd : Cel w dg 3 [.int .i64 (d : Int)]) (N : Int) (ok : Bool) (n : Nat) (hn : n = us.length) (dv dv1 : Int) (e0 : dv = (d : Int)) (e1 : dv1 = (d : Int) + 1) :
    w.cell? ⟨dg, 0, none⟩ = some (.int .i64 dv) ∧ w.frozen? ⟨dg, 0, none⟩ = false ∧ w.cell? ⟨r, n * 4 + 2, none⟩ = some (.int .i64 x.t.t.n) ∧ (w.setCell ⟨dg, 0, none⟩ (.int .i64 dv1)).cell? ⟨r, n * 4 + 2, none⟩ = some (.int .i64 x.t.t.n) ∧ (w.setCell ⟨dg, 0, none⟩ (.int .i64 dv1)).frozen? ⟨r, n * 4 + 2, none⟩ = false ∧
    ((w.setCell ⟨dg, 0, none⟩ (.int .i64 dv1)).setCell ⟨r, n * 4 + 2, none⟩ (.int .i64 N)).cell? ⟨r, n * 4 + 2, none⟩ = some (.int .i64 N) ∧
    NuSays w D K g E p z us x N r dg (d + 1) ok (.returned (.bool ok)) ((w.setCell ⟨dg, 0, none⟩ (.int .i64 dv1)).setCell ⟨r, n * 4 + 2, none⟩ (.int .i64 N)) := by
  subst hn; subst e0; subst e1
  obtain ⟨W1, hW1⟩ : ∃ W1, W1 = w.setCell ⟨dg, 0, none⟩ (.int .i64 ((d : Int) + 1)) := ⟨_, rfl⟩
  have hM1 : Ml W1 D K g E p z us x r := by rw [hW1]; exact h.other hd _
  have hD1 : Cel W1 dg 3 [.int .i64 ((d + 1 : Nat) : Int)] := by rw [hW1]; have := Cel.set hd 0 (.int .i64 ((d : Int) + 1)); rwa [show ((d : Int) + 1) = ((d + 1 : Nat) : Int) by omega] at this ⊢
  have hC1 : Chl D w W1 := by rw [hW1]; exact Chl.set _ hD hd (.inr (.inr (.inr rfl)))
  obtain ⟨hM2, hC2⟩ := hM1.put (i := 2) (u := .int .i64 N) (y := withN x N) (by decide) rfl (hM1.mc.new x (List.mem_singleton.2 rfl))
  rw [← hW1]
  obtain ⟨c, hc, ho⟩ := hM1.row
  refine ⟨Cel.cell hd 0, Cel.free hd 0, h.at_ (i := 2) (by decide) rfl, hM1.at_ (i := 2) (by decide) rfl, hM1.free _, hM2.at_ (i := 2) (by decide) rfl, rfl, hM2, Cel.far hD1 (fun e => own_ty_ne ho hD1 (by decide) (by rw [e]; rfl)) _, hC1.trans hC2⟩
set_option maxRecDepth 100000 in
set_option maxHeartbeats 1000000 in
theorem num_more {r dg d : Nat} (h : Ml w D K g E p z us x r) (b : BitVec 8) (hb : digit b = true) (hD : D ≤ dg) (hd : Cel w dg 3 [.int .i64 (d : Int)]) (hd1 : d ≤ 100000) (hm : us.length ≤ 100000) (hn0 : 0 ≤ x.t.t.n) (hn1 : x.t.t.n ≤ 9999) (ok : Bool) (hok : ok = (!(decide (0 < d) && decide (x.t.t.n = 0)) && decide (10 * x.t.t.n + ((b.toNat : Int) - 48) ≤ 9999))) :
    Calls Try.prog 48 #[.pointer (some ⟨r, us.length * 4, none⟩), v8 b, .pointer (some ⟨dg, 0, none⟩)] w (NuSays w D K g E p z us x (10 * x.t.t.n + ((b.toNat : Int) - 48)) r dg (d + 1) ok) := by
  obtain ⟨hb1, hb2⟩ := digit_iff.1 hb
  obtain ⟨n, hn⟩ : ∃ n, n = us.length := ⟨_, rfl⟩
  have HF := Lib.hid (fun N => num_facts h hD hd N ok n hn)
  rw [← hn] at hm ⊢
  obtain ⟨xn, hxn⟩ : ∃ xn, xn = x.t.t.n := ⟨_, rfl⟩
  rw [← hxn] at HF hok hn0 hn1 ⊢
  have HOK := Lib.hid hok
  clear h hd hok hb hn hxn
  obtain ⟨N, hN⟩ : ∃ N, N = 10 * xn + ((b.toNat : Int) - 48) := ⟨_, rfl⟩
  rw [← hN] at HOK ⊢
  by_cases hx : xn = 0
  · subst hx
    have eN : N = (b.toNat : Int) - 48 := by omega
    rw [eN] at HOK ⊢
    clear hN eN
    by_cases h0 : 0 < d
    · obtain ⟨k0, f0, k1, k2, f2, k3, hend⟩ := HF.out ((b.toNat : Int) - 48) (d : Int) ((d : Int) + 1) rfl rfl
      have hf : ok = false := by rw [HOK.out]; simp [h0]
      have HEND := Lib.hid hend
      subst hf
      clear HOK hend HF
      go_enter Try.func48, Try.ntmps48
      go_wp2_with fail
      go_ret
      exact HEND.out
    · obtain ⟨k0, f0, k1, k2, f2, k3, hend⟩ := HF.out ((b.toNat : Int) - 48) 0 1 (by omega) (by omega)
      have hf : ok = decide ((b.toNat : Int) - 48 ≤ 9999) := by rw [HOK.out]; simp [h0]
      have HEND := Lib.hid hend
      subst hf
      clear HOK hend HF h0
      go_enter Try.func48, Try.ntmps48
      go_wp2_with fail
      go_ret
      exact HEND.out
  · have eN : N = xn * 10 + ((b.toNat : Int) - 48) := by omega
    rw [eN] at HOK ⊢
    clear hN eN
    have hxb : (xn == 0) = false := by simpa using hx
    have hf : ok = decide (xn * 10 + ((b.toNat : Int) - 48) ≤ 9999) := by rw [HOK.out]; simp [hx]
    subst hf
    by_cases h0 : 0 < d
    · obtain ⟨k0, f0, k1, k2, f2, k3, hend⟩ := HF.out (xn * 10 + ((b.toNat : Int) - 48)) (d : Int) ((d : Int) + 1) rfl rfl
      have HEND := Lib.hid hend
      clear HOK hend HF hx
      go_enter Try.func48, Try.ntmps48
      go_wp2_with fail
      go_ret
      exact HEND.out
    · obtain ⟨k0, f0, k1, k2, f2, k3, hend⟩ := HF.out (xn * 10 + ((b.toNat : Int) - 48)) 0 1 (by omega) (by omega)
      have HEND := Lib.hid hend
      clear HOK hend HF hx h0
      go_enter Try.func48, Try.ntmps48
      go_wp2_with fail
      go_ret
      exact HEND.out
/-- A state that takes bytes of one kind (run's): a byte that fits. -/
def RuSaysF (w : World) (D K g : Nat) (E : Value) (p z : Int) (us : List Tv) (q : Nat) (r : Nat) (M : Value) (ok : Bool) (R : Tv → World → Prop) (e : Ending) (w' : World) : Prop :=
  if ok then e = .returned M ∧ (∃ y, R y w' ∧ Ml w' D K g E p z us y r) ∧ Chl D w w' else e = .returned .nilFunc ∧ (∃ y, Mc w' D K g E p (q : Int) us [y]) ∧ Chl D w w'
set_option maxRecDepth 100000 in
set_option maxHeartbeats 1000000 in
theorem run_fit {r p2 p3 p4 kf kg : Nat} {M : Value} {cf cg : Array Value} {R : Tv → World → Prop} (h : Ml w D K g E p z us x r) (b : BitVec 8) (hm : us.length ≤ 100000) (ok : Bool)
    (h2 : Cel w p2 55 [.func (.func kf) #[] cf]) (h3 : Cel w p3 71 [.func (.func kg) #[] cg]) (h4 : Cel w p4 49 [M])
    (hF : ∀ args W, (callFunc kf args).run Try.prog W = .ok (.enter kf args) W) (conF : Calls Try.prog kf (#[v8 b] ++ cf) w fun e w' => e = .returned (.bool true) ∧ w' = w)
    (hG : ∀ args W, (callFunc kg args).run Try.prog W = .ok (.enter kg args) W)
    (conG : ∀ W, Below w.heap.size w W → Calls Try.prog kg (#[.pointer (some ⟨r, us.length * 4, none⟩), v8 b] ++ cg) W fun e w' => e = .returned (.bool ok) ∧ (∃ y, (y.t.at_ = x.t.at_ ∧ R y w') ∧ Ml w' D K g E p z us y r) ∧ Chl D W w') :
    Calls Try.prog 63 #[.pointer (some ⟨g, 0, none⟩), v8 b, .pointer (some ⟨p2, 0, none⟩), .pointer (some ⟨p3, 0, none⟩), .pointer (some ⟨p4, 0, none⟩)] w (RuSaysF w D K g E p z us x.t.at_ r M ok R) := by
  have conl := last_ h hm
  have k2 := Cel.cell h2 0
  have H3 := Lib.hid h3
  have H4 := Lib.hid h4
  have HG := Lib.hid conG
  obtain ⟨n, hn⟩ : ∃ n, n = us.length := ⟨_, rfl⟩
  rw [← hn] at conl HG
  have HN := Lib.hid hn
  have hml : n ≤ 100000 := by omega
  clear h h2 h3 h4 conG hn hm
  go_enter Try.func63, Try.ntmps63
  go_wp2_with fail
  refine conF.mono ?_
  clear conF
  rintro e w1 ⟨rfl, rfl⟩
  go_wp2_with fail
  refine conl.mono ?_
  clear conl k2
  rintro e w2 ⟨rfl, hb⟩
  have conG := HG.out w2 hb
  have k3 := Cel.cell (Cel.below H3.out hb (Cel.lt H3.out)) 0
  have HC2 := Lib.hid (Chl.of_below (D := D) hb)
  clear hb HG
  go_wp2_with fail
  refine conG.mono ?_
  clear conG k3
  rintro e w3 ⟨rfl, ⟨y, ⟨hy, hR⟩, hM⟩, hC⟩
  have HC3 := Lib.hid (HC2.out.trans hC)
  have k4 := Cel.cell (Cel.chl H4.out HC3.out (by simp [Lob])) 0
  cases ok
  · have ka : w3.cell? ⟨r, n * 4 + 1, none⟩ = some (.int .i64 (y.t.at_ : Int)) := by rw [HN.out]; exact hM.at_ (i := 1) (by decide) rfl
    have con := fail_ hM.mc (x.t.at_ : Int)
    rw [hy] at ka
    clear hM hC hR hy
    go_wp2_with fail
    refine con.mono ?_
    clear con
    rintro e w4 ⟨rfl, hM4, hC4⟩
    go_wp2_with fail
    go_ret
    exact ⟨rfl, ⟨y, hM4⟩, HC3.out.trans hC4⟩
  · have HM := Lib.hid hM
    have HR := Lib.hid hR
    clear hM hC hR hy
    go_wp2_with fail
    go_ret
    exact ⟨rfl, ⟨y, HR.out, HM.out⟩, HC3.out⟩
/-- .. and one that doesn't. -/
theorem run_not {p2 kf : Nat} {cf : Array Value} {a3 a4 : Value} {Post : Ending → World → Prop} (b : BitVec 8)
    (h2 : Cel w p2 55 [.func (.func kf) #[] cf]) (hF : ∀ args W, (callFunc kf args).run Try.prog W = .ok (.enter kf args) W) (conF : Calls Try.prog kf (#[v8 b] ++ cf) w fun e w' => e = .returned (.bool false) ∧ w' = w)
    (con : Calls Try.prog 10 #[.pointer (some ⟨g, 0, none⟩), v8 b] w fun e w' => (∃ v, e = .returned v) ∧ Post e w') :
    Calls Try.prog 63 #[.pointer (some ⟨g, 0, none⟩), v8 b, .pointer (some ⟨p2, 0, none⟩), a3, a4] w Post := by
  have k2 := Cel.cell h2 0
  clear h2
  go_enter Try.func63, Try.ntmps63
  go_wp2_with fail
  refine conF.mono ?_
  clear conF
  rintro e w1 ⟨rfl, rfl⟩
  go_wp2_with fail
  refine con.mono ?_
  clear con
  rintro e w2 ⟨⟨v, rfl⟩, hp⟩
  have HP := Lib.hid hp
  clear hp
  go_wp2_with fail
  exact HP.out
end
end Go.Proofs.Ytadfoilbcipdjaa.Lex
