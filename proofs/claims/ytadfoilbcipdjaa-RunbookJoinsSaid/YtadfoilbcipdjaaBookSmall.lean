/-
  The program's runbook (layer 12): isNext, take, hasWord, reached.
-/
import Derived.Test.YtadfoilbcipdjaaBookCells
import Derived.Test.YtadfoilbcipdjaaOrders
namespace Go.Proofs.Ytadfoilbcipdjaa.Book
open Go.RowKit
open Go.Proofs.Ytadfoilbcipdjaa.Lex (Tok Tk B cut Tv Tx tflat Cr cr_ry Ptk lbelow_drew)
set_option linter.unusedVariables false
set_option linter.unusedSimpArgs false

section
variable {W w : World} {g K : Nat} {o : Bool} {s : Ps} {x : Px}
abbrev pp (g : Nat) : Value := .pointer (some ⟨g, 0, none⟩)
set_option maxRecDepth 100000 in
set_option maxHeartbeats 1000000 in
theorem isNext_ (h : Pw W w g K o s x) (k : Int) : Calls Try.prog 65 #[pp g, .int .i64 k] w fun e w' => e = .returned (.bool (kd k s.l)) ∧ w' = w := by
  have k0 := h.c 0
  change _ = some (Value.slice x.A0 s.l.length x.c0) at k0
  cases hl : s.l with
  | nil =>
    rw [hl] at k0
    clear h hl
    go_enter Try.func65, Try.ntmps65
    go_wp2_with fail
    go_ret
    exact ⟨rfl, rfl⟩
  | cons y m =>
    obtain ⟨v, rs, ad, hx, hv, ht, hA, htx, t0, t1, t2, t3⟩ := h.rest.next hl h.bel
    rw [hl, hA, List.length_cons] at k0
    subst hv
    have hK : (v.t.t.kind == k) = decide (v.t.t.kind = k) := by by_cases e : v.t.t.kind = k <;> simp [e]
    have HK := Lib.hid (show kd k (v.t :: m) = (v.t.t.kind == k) from hK.symm)
    generalize v.t.t.kind = vk at *
    generalize m.length = ml at *
    clear h hl hx ht hA htx t1 t2 t3 hK
    go_enter Try.func65, Try.ntmps65
    go_wp2_with fail
    go_ret
    exact ⟨by rw [HK.out]; rfl, rfl⟩
theorem load_tokP {w : World} {g : Nat} {x0 x1 x2 x3 : Value} (h : Cel w g 53 [x0, x1, x2, x3]) : (loadVar 53 ⟨g, 0, none⟩).run Try.prog w = .ok (.agg #[x0, x1, x2, x3]) w :=
  run_loadVar_mid (P := Try.prog) w g 0 53 [x0, x1, x2, x3] _ (fun j v hv => by rw [Nat.zero_add, h.cell j, hv]) Try.underlying53 rfl (by kernel_rfl)
theorem results_at1 {P : Program} {fn : Func} {tmps : Array Value} {w : World} (a : Tmp) (t : TypeId) (hr : fn.results = #[.cell a t]) (ad : Addr) (ha : tmps.getD a undef = .pointer (some ad)) (v : Value) (hl : (loadVar t ad).run P w = .ok v w) :
    (results fn tmps).run P w = .ok v w := by
  unfold results
  rw [hr]
  simp only [List.mapM_toArray, List.mapM_cons, List.mapM_nil, ha, asAddr]
  simp [hl]
/-- What take returns. -/
def TkSays (W w : World) (g K : Nat) (o : Bool) (s : Ps) (x : Px) (y : Tok) (m : T) (e : Ending) (w' : World) : Prop := ∃ v rs, x.rs = v :: rs ∧ v.t = y ∧ toks rs = m ∧ Tx W 0 v.A v.t.t.text ∧
  e = .returned (.agg #[.int .i64 v.t.t.kind, .int .i64 (v.t.at_ : Int), .int .i64 v.t.t.n, .slice v.A v.t.t.text.length v.c]) ∧ Pw W w' g K o (took s y m) (tookX x rs) ∧ Chp w w'
set_option maxRecDepth 100000 in
set_option maxHeartbeats 1000000 in
theorem take_ (h : Pw W w g K o s x) (y : Tok) (m : T) (hl : s.l = y :: m) : Calls Try.prog 66 #[pp g] w (TkSays W w g K o s x y m) := by
  obtain ⟨n, hn⟩ : ∃ n, n = m.length := ⟨_, rfl⟩
  obtain ⟨v, rs, ad, hx, hv, ht, hA, htx, t0, t1, t2, t3⟩ := h.rest.next hl h.bel
  have hlen := h.rest.len
  have k0 := h.c 0
  change _ = some (Value.slice x.A0 s.l.length x.c0) at k0
  rw [hl, hA, List.length_cons, ← hn] at k0
  have k1 := h.c 1
  change _ = some (Value.int .i64 (s.at_ : Int)) at k1
  have f0 := h.f 0
  have f1 := h.f 1
  have hgs : g < w.heap.size := h.cel.lt
  have had : ad.block < w.heap.size := cell_lt t0
  obtain ⟨A1, hA1⟩ : ∃ A1, A1 = (if x.c0 = 1 then x.A0 else x.A0.map (·.add (1 * 4))) := ⟨_, rfl⟩
  obtain ⟨c1, hc1⟩ : ∃ c1, c1 = x.c0 - 1 := ⟨_, rfl⟩
  have hcut : ∀ V : World, (Instr.sliceAt 36 (.slice (some ad) (n + 1) x.c0) (some (.int .i64 1)) none none).run Try.prog V = .ok (.slice A1 n c1) V := fun V => by
    have := run_cutFrom (P := Try.prog) V (t := 36) (e := 53) (size := 4) Try.underlying36 rfl (some ad) (n + 1) x.c0 1 .i64 (by omega)
    rw [hA1, hA, hc1]
    exact this
  have h4 : Pw W ((w.setCell ⟨g, 0, none⟩ (.slice A1 n c1)).setCell ⟨g, 1, none⟩ (.int .i64 (v.t.at_ : Int))) g K o (took s y m) (tookX x rs) := by
    subst hv
    have hr : Rest W m (tookX x rs) := by have := h.rest.took hx; rwa [ht] at this
    refine h.wrote (((Frm.refl [g] w).set (p := ⟨g, 0, none⟩) (by simp) _).set (p := ⟨g, 1, none⟩) (by simp) _) ?_ hr h.send h.pat ⟨rfl, rfl, rfl, rfl⟩ ⟨rfl, rfl, rfl, rfl⟩
    have := (h.cel.set 0 (.slice A1 n c1)).set 1 (.int .i64 (v.t.at_ : Int))
    rw [hA1, hn, hc1] at this ⊢
    exact this
  have H4 := Lib.hid h4
  have HC := Lib.hid (Chp.frm h.cel (((Frm.refl [g] w).set (p := ⟨g, 0, none⟩) (by simp) (.slice A1 n c1)).set (p := ⟨g, 1, none⟩) (by simp) (.int .i64 (v.t.at_ : Int))))
  have HX := Lib.hid (show x.rs = v :: rs ∧ v.t = y ∧ toks rs = m ∧ Tx W 0 v.A v.t.t.text from ⟨hx, hv, ht, htx⟩)
  clear h hx hv ht htx hlen h4 hn hA1 hc1 hl
  go_enter Try.func66, Try.ntmps66
  go_wp2_with fail
  refine bodyPost_ret (v := .agg #[.int .i64 v.t.t.kind, .int .i64 (v.t.at_ : Int), .int .i64 v.t.t.n, .slice v.A v.t.t.text.length v.c]) (results_at1 2 53 Try.results66 ⟨w.heap.size, 0, none⟩ rfl _ (load_tokP ?_)) rfl ?_
  · have hc := Cel.new ((w.setCell ⟨g, 0, none⟩ (.slice A1 n c1)).setCell ⟨g, 1, none⟩ (.int .i64 (v.t.at_ : Int))) 53 [.int .i64 v.t.t.kind, .int .i64 (v.t.at_ : Int), .int .i64 v.t.t.n, .slice v.A v.t.t.text.length v.c]
    have hc2 := Cel.alloc hc (.cells #[.int .i64 v.t.t.kind, .int .i64 (v.t.at_ : Int), .int .i64 v.t.t.n, .slice v.A v.t.t.text.length v.c] 53)
    simpa [World.setCell] using hc2
  · obtain ⟨x1, x2, x3, x4⟩ := HX.out
    refine ⟨v, rs, x1, x2, x3, x4, rfl, (H4.out.below ((Below.refl _ _).alloc (Nat.le_refl _) _)).below ((Below.refl _ _).alloc (Nat.le_refl _) _), (HC.out.trans (Chp.of_below ((Below.refl _ _).alloc (Nat.le_refl _) _))).trans (Chp.of_below ((Below.refl _ _).alloc (Nat.le_refl _) _))⟩
set_option maxRecDepth 100000 in
set_option maxHeartbeats 1000000 in
theorem reached_ (h : Pw W w g K o s x) (n : Nat) : Calls Try.prog 8 #[pp g, .int .i64 (n : Int)] w fun e w' => e = .returned (.int .i64 (headAt n s.l : Int)) ∧ w' = w := by
  have k0 := h.c 0
  change _ = some (Value.slice x.A0 s.l.length x.c0) at k0
  cases hl : s.l with
  | nil =>
    rw [hl] at k0
    clear h hl
    go_enter Try.func8, Try.ntmps8
    go_wp2_with fail
    go_ret
    exact ⟨rfl, rfl⟩
  | cons y m =>
    obtain ⟨v, rs, ad, hx, hv, ht, hA, htx, t0, t1, t2, t3⟩ := h.rest.next hl h.bel
    rw [hl, hA, List.length_cons] at k0
    subst hv
    have hml : (((m.length : Nat) : Int) + 1 == 0) = false := by simp; omega
    generalize m.length = ml at *
    clear h hl hx ht hA htx t2 t3
    go_enter Try.func8, Try.ntmps8
    go_wp2_with fail
    go_ret
    exact ⟨rfl, rfl⟩
/-- The world's words, as the code has them. -/
def HwSays (W w : World) (g K : Nat) (o : Bool) (s : Ps) (wo : List (BitVec 8)) (e : Ending) (w' : World) : Prop := e = .returned (.bool (wd wo s.l)) ∧ Chp w w' ∧ ∃ x', Pw W w' g K o (if wd wo s.l then takeS s else s) x'
set_option maxRecDepth 100000 in
set_option maxHeartbeats 1000000 in
theorem hasWord_ (h : Pw W w g K o s x) (wo : List (BitVec 8)) (sw : ByteArray) (hsw : sw = str wo) : Calls Try.prog 51 #[pp g, .string sw] w (HwSays W w g K o s wo) := by
  have con := isNext_ h 1
  cases hk : kd 1 s.l with
  | false =>
    rw [hk] at con
    have hw : wd wo s.l = false := by
      cases hl : s.l with
      | nil => rfl
      | cons y m => rw [hl] at hk; have hk' : decide (y.t.kind = 1) = false := hk; show (decide (y.t.kind = 1) && decide (y.t.text = wo)) = false; rw [hk']; rfl
    have HEND := Lib.hid (show HwSays W w g K o s wo (.returned (.bool false)) w from ⟨by rw [hw], Chp.refl _, x, by rw [hw]; exact h⟩)
    clear h hk hw
    go_enter Try.func51, Try.ntmps51
    go_wp2_with fail
    refine con.mono ?_
    clear con
    rintro e w1 ⟨rfl, rfl⟩
    go_wp2_with fail
    go_ret
    exact HEND.out
  | true =>
    rw [hk] at con
    obtain ⟨y, m, hl⟩ : ∃ y m, s.l = y :: m := by
      cases hl : s.l with
      | nil => rw [hl] at hk; cases hk
      | cons y m => exact ⟨y, m, rfl⟩
    obtain ⟨v, rs, ad, hx, hv, ht, hA, htx, t0, t1, t2, t3⟩ := h.rest.next hl h.bel
    have k0 := h.c 0
    change _ = some (Value.slice x.A0 s.l.length x.c0) at k0
    rw [hl, hA, List.length_cons] at k0
    have cont := take_ h y m hl
    have hst : ((str v.t.t.text).toList == sw.toList) = wd wo s.l := by
      rw [hsw, str_beq, hl]
      rw [hl] at hk
      have hk' : decide (y.t.kind = 1) = true := hk
      show _ = (decide (y.t.kind = 1) && decide (y.t.text = wo))
      rw [hk', hv]
      rfl
    have s1 : (convert 22 9 (.slice v.A v.t.t.text.length v.c)).run Try.prog w = .ok (.string (str v.t.t.text)) w := (Bs.bp ((htx.below (Nat.zero_le _) h.bel).bs (Nat.zero_le _))).string v.c Try.underlying22 Try.underlying5 Try.underlying9
    have HN := Lib.hid (show wd wo s.l = false → HwSays W w g K o s wo (.returned (.bool false)) w from fun hw => ⟨by rw [hw], Chp.refl _, x, by rw [hw]; exact h⟩)
    have HY := Lib.hid (show ∀ e w', wd wo s.l = true → TkSays W w g K o s x y m e w' → HwSays W w g K o s wo (.returned (.bool true)) w' from fun e w' hw ⟨v, rs, _, _, _, _, _, hp, hs⟩ => ⟨by rw [hw], hs, _, by rw [hw, if_pos rfl, takeS_cons hl]; exact hp⟩)
    obtain ⟨b, hb⟩ : ∃ b, b = wd wo s.l := ⟨_, rfl⟩
    rw [← hb] at hst HN HY
    generalize m.length = ml at *
    obtain ⟨st, hst'⟩ : ∃ st, st = str v.t.t.text := ⟨_, rfl⟩
    rw [← hst'] at hst s1
    generalize v.t.t.text.length = tl at *
    clear h hk hl hx hv ht hA htx hsw hst'
    cases b with
    | false =>
      clear cont hb
      go_enter Try.func51, Try.ntmps51
      go_wp2_with fail
      refine con.mono ?_
      clear con
      rintro e w1 ⟨rfl, rfl⟩
      go_wp2_with fail
      go_ret
      exact HN.out trivial
    | true =>
      clear hb
      go_enter Try.func51, Try.ntmps51
      go_wp2_with fail
      refine con.mono ?_
      clear con
      rintro e w1 ⟨rfl, rfl⟩
      go_wp2_with fail
      refine cont.mono ?_
      clear cont
      rintro e w2 htk
      have HT := Lib.hid (HY.out e w2 trivial htk)
      obtain ⟨v', rs', _, _, _, _, rfl, _⟩ := htk
      go_wp2_with fail
      go_ret
      exact HT.out
theorem fld_n (a b c d : Value) (W : World) : (Instr.field 53 (.agg #[a, b, c, d]) 2).run Try.prog W = .ok c W := by kernel_rfl
theorem fld_t (a b c d : Value) (W : World) : (Instr.field 53 (.agg #[a, b, c, d]) 3).run Try.prog W = .ok d W := by kernel_rfl
/-- What a part of the form leaves. -/
def PtSays (W w : World) (g : Nat) (o : Bool) (r : Except T Ps) (e : Ending) (w' : World) : Prop := Chp w w' ∧ match r with
  | .ok s' => e = .returned (.bool true) ∧ Pb W w' g o s'
  | .error m => e = .returned (.bool false) ∧ ∃ s', s'.l = m ∧ Pb W w' g false s'
def Contract (W : World) (g : Nat) (o o' : Bool) (f : Nat) (F : Pf) : Prop := ∀ w s, Pb W w g o s → Jj s → Calls Try.prog f #[pp g] w (PtSays W w g o' (F s))
set_option maxRecDepth 100000 in
set_option maxHeartbeats 1000000 in
/-- A number is stored in a cell of the parser. -/
theorem number_ (h : Pb W w g o s) (i : Nat) (f : Tok → Ps → Ps) (hf : ∀ y s x, (pcells s x).set i (.int .i64 y.t.n) = pcells (f y s) x) (hi : i < 17)
    (hk : ∀ y s, (f y s).l = s.l ∧ (f y s).step.send = s.step.send ∧ (f y s).arm.pat = s.arm.pat ∧ (f y s).step.arms = s.step.arms ∧ (f y s).steps = s.steps) :
    Calls Try.prog 52 #[pp g, .pointer (some ⟨g, i, none⟩)] w (PtSays W w g o (fWant (kd 2) f s)) := by
  obtain ⟨K, x, h⟩ := h
  have con := isNext_ h 2
  cases hc : kd 2 s.l with
  | false =>
    rw [hc] at con
    have HEND := Lib.hid (show PtSays W w g o (fWant (kd 2) f s) (.returned (.bool false)) w from by rw [fWant_miss hc rfl]; exact ⟨Chp.refl _, rfl, s, rfl, Pb.weak ⟨K, x, h⟩⟩)
    clear h hc
    go_enter Try.func52, Try.ntmps52
    go_wp2_with fail
    refine con.mono ?_
    clear con
    rintro e w1 ⟨rfl, rfl⟩
    go_wp2_with fail
    go_ret
    exact HEND.out
  | true =>
    rw [hc] at con
    obtain ⟨y, m, hl⟩ : ∃ y m, s.l = y :: m := by
      cases hl : s.l with
      | nil => rw [hl] at hc; cases hc
      | cons y m => exact ⟨y, m, rfl⟩
    have cont := take_ h y m hl
    have HY := Lib.hid (show ∀ x' w', Pw W w' g K o (took s y m) x' → Chp w w' → PtSays W w g o (fWant (kd 2) f s) (.returned (.bool true)) (w'.setCell ⟨g, i, none⟩ (.int .i64 y.t.n)) from fun x' w' hp hs => by
      rw [fWant_hit hl (by rw [← hl]; exact hc)]
      obtain ⟨q1, q2, q3, q4, q5⟩ := hk y (took s y m)
      exact ⟨hs.trans (Chp.frm hp.cel ((Frm.refl [g] w').set (p := ⟨g, i, none⟩) (by simp) _)), rfl, K, x', hp.put (hf y _ x') (by rw [q1]; exact hp.rest) (by rw [q2]; exact hp.send) (by rw [q3]; exact hp.pat) ⟨q4, rfl, rfl, rfl⟩ ⟨q5, rfl, rfl, rfl⟩⟩)
    clear h hc hl hf hk
    go_enter Try.func52, Try.ntmps52
    go_wp2_with fail
    refine con.mono ?_
    clear con
    rintro e w1 ⟨rfl, rfl⟩
    go_wp2_with fail
    refine cont.mono ?_
    clear cont
    rintro e w2 ⟨v, rs, hx, hv, ht, htx, rfl, hp, hs⟩
    have f0 := hp.f i
    obtain ⟨u0, k0⟩ : ∃ u0, w2.cell? ⟨g, i, none⟩ = some u0 := ⟨_, (hp.c i).trans (List.getElem?_eq_getElem (by exact hi))⟩
    have HT := Lib.hid (HY.out _ _ hp hs)
    subst hv
    clear hp hx ht htx
    have hfd := fld_n (.int .i64 v.t.t.kind) (.int .i64 (v.t.at_ : Int)) (.int .i64 v.t.t.n) (.slice v.A v.t.t.text.length v.c)
    go_wp2_with fail
    go_ret
    exact HT.out
set_option maxRecDepth 100000 in
set_option maxHeartbeats 1000000 in
/-- A word is stored in a cell of the parser. -/
theorem word_ (h : Pb W w g o s) (i : Nat) (f : Tok → Ps → Ps) (hf : ∀ y s x, (pcells s x).set i (.string (str y.t.text)) = pcells (f y s) x) (hi : i < 17)
    (hk : ∀ y s, (f y s).l = s.l ∧ (f y s).step.send = s.step.send ∧ (f y s).arm.pat = s.arm.pat ∧ (f y s).step.arms = s.step.arms ∧ (f y s).steps = s.steps) :
    Calls Try.prog 53 #[pp g, .pointer (some ⟨g, i, none⟩)] w (PtSays W w g o (fWant (kd 1) f s)) := by
  obtain ⟨K, x, h⟩ := h
  have con := isNext_ h 1
  cases hc : kd 1 s.l with
  | false =>
    rw [hc] at con
    have HEND := Lib.hid (show PtSays W w g o (fWant (kd 1) f s) (.returned (.bool false)) w from by rw [fWant_miss hc rfl]; exact ⟨Chp.refl _, rfl, s, rfl, Pb.weak ⟨K, x, h⟩⟩)
    clear h hc
    go_enter Try.func53, Try.ntmps53
    go_wp2_with fail
    refine con.mono ?_
    clear con
    rintro e w1 ⟨rfl, rfl⟩
    go_wp2_with fail
    go_ret
    exact HEND.out
  | true =>
    rw [hc] at con
    obtain ⟨y, m, hl⟩ : ∃ y m, s.l = y :: m := by
      cases hl : s.l with
      | nil => rw [hl] at hc; cases hc
      | cons y m => exact ⟨y, m, rfl⟩
    have cont := take_ h y m hl
    have HY := Lib.hid (show ∀ x' w', Pw W w' g K o (took s y m) x' → Chp w w' → PtSays W w g o (fWant (kd 1) f s) (.returned (.bool true)) (w'.setCell ⟨g, i, none⟩ (.string (str y.t.text))) from fun x' w' hp hs => by
      rw [fWant_hit hl (by rw [← hl]; exact hc)]
      obtain ⟨q1, q2, q3, q4, q5⟩ := hk y (took s y m)
      exact ⟨hs.trans (Chp.frm hp.cel ((Frm.refl [g] w').set (p := ⟨g, i, none⟩) (by simp) _)), rfl, K, x', hp.put (hf y _ x') (by rw [q1]; exact hp.rest) (by rw [q2]; exact hp.send) (by rw [q3]; exact hp.pat) ⟨q4, rfl, rfl, rfl⟩ ⟨q5, rfl, rfl, rfl⟩⟩)
    clear h hc hl hf hk
    go_enter Try.func53, Try.ntmps53
    go_wp2_with fail
    refine con.mono ?_
    clear con
    rintro e w1 ⟨rfl, rfl⟩
    go_wp2_with fail
    refine cont.mono ?_
    clear cont
    rintro e w2 ⟨v, rs, hx, hv, ht, htx, rfl, hp, hs⟩
    have f0 := hp.f i
    obtain ⟨u0, k0⟩ : ∃ u0, w2.cell? ⟨g, i, none⟩ = some u0 := ⟨_, (hp.c i).trans (List.getElem?_eq_getElem (by exact hi))⟩
    have HT := Lib.hid (HY.out _ _ hp hs)
    subst hv
    have s1 : (convert 22 9 (.slice v.A v.t.t.text.length v.c)).run Try.prog w2 = .ok (.string (str v.t.t.text)) w2 := (Bs.bp ((htx.below (Nat.zero_le _) hp.bel).bs (Nat.zero_le _))).string v.c Try.underlying22 Try.underlying5 Try.underlying9
    clear hp hx ht htx
    have hfd := fld_t (.int .i64 v.t.t.kind) (.int .i64 (v.t.at_ : Int)) (.int .i64 v.t.t.n) (.slice v.A v.t.t.text.length v.c)
    go_wp2_with fail
    go_ret
    exact HT.out
set_option maxRecDepth 100000 in
set_option maxHeartbeats 1000000 in
/-- A text is stored in a cell of the parser. -/
theorem text_ (h : Pb W w g o s) (i : Nat) (f : Tok → Ps → Ps) (gx : Option Addr → Nat → Px → Px) (hf : ∀ y s x A c, (pcells s x).set i (.slice A y.t.text.length c) = pcells (f y s) (gx A c x)) (hi : i < 17)
    (hk : ∀ y s, (f y s).l = s.l ∧ (f y s).step.arms = s.step.arms ∧ (f y s).steps = s.steps) (hg : ∀ A c x, (gx A c x).A0 = x.A0 ∧ (gx A c x).c0 = x.c0 ∧ (gx A c x).rs = x.rs ∧ ((gx A c x).A9 = x.A9 ∧ (gx A c x).c9 = x.c9 ∧ (gx A c x).avs = x.avs) ∧ (gx A c x).A3 = x.A3 ∧ (gx A c x).c3 = x.c3 ∧ (gx A c x).bvs = x.bvs)
    (ht : ∀ y s A c x, Tx W 0 A y.t.text → Tx W 0 x.A8 s.step.send → Tx W 0 x.A14 s.arm.pat → Tx W 0 (gx A c x).A8 (f y s).step.send ∧ Tx W 0 (gx A c x).A14 (f y s).arm.pat) :
    Calls Try.prog 67 #[pp g, .pointer (some ⟨g, i, none⟩)] w (PtSays W w g o (fWant (kd 3) f s)) := by
  obtain ⟨K, x, h⟩ := h
  have con := isNext_ h 3
  cases hc : kd 3 s.l with
  | false =>
    rw [hc] at con
    have HEND := Lib.hid (show PtSays W w g o (fWant (kd 3) f s) (.returned (.bool false)) w from by rw [fWant_miss hc rfl]; exact ⟨Chp.refl _, rfl, s, rfl, Pb.weak ⟨K, x, h⟩⟩)
    clear h hc
    go_enter Try.func67, Try.ntmps67
    go_wp2_with fail
    refine con.mono ?_
    clear con
    rintro e w1 ⟨rfl, rfl⟩
    go_wp2_with fail
    go_ret
    exact HEND.out
  | true =>
    rw [hc] at con
    obtain ⟨y, m, hl⟩ : ∃ y m, s.l = y :: m := by
      cases hl : s.l with
      | nil => rw [hl] at hc; cases hc
      | cons y m => exact ⟨y, m, rfl⟩
    have cont := take_ h y m hl
    have HY := Lib.hid (show ∀ x' w' A c, Tx W 0 A y.t.text → Pw W w' g K o (took s y m) x' → Chp w w' → PtSays W w g o (fWant (kd 3) f s) (.returned (.bool true)) (w'.setCell ⟨g, i, none⟩ (.slice A y.t.text.length c)) from fun x' w' A c hA hp hs => by
      rw [fWant_hit hl (by rw [← hl]; exact hc)]
      obtain ⟨q1, q4, q5⟩ := hk y (took s y m)
      obtain ⟨g1, g2, g3, g4, g5⟩ := hg A c x'
      obtain ⟨t1, t2⟩ := ht y (took s y m) A c x' hA hp.send hp.pat
      exact ⟨hs.trans (Chp.frm hp.cel ((Frm.refl [g] w').set (p := ⟨g, i, none⟩) (by simp) _)), rfl, K, gx A c x', hp.put (hf y _ x' A c) (by rw [q1]; exact ⟨by rw [g1, g3]; exact hp.rest.ptk, by rw [g3]; exact hp.rest.tok, by rw [g2, g3]; exact hp.rest.cap⟩) t1 t2 ⟨q4, g4⟩ ⟨q5, g5⟩⟩)
    clear h hc hl hf hk hg ht
    go_enter Try.func67, Try.ntmps67
    go_wp2_with fail
    refine con.mono ?_
    clear con
    rintro e w1 ⟨rfl, rfl⟩
    go_wp2_with fail
    refine cont.mono ?_
    clear cont
    rintro e w2 ⟨v, rs, hx, hv, htk, htx, rfl, hp, hs⟩
    have f0 := hp.f i
    obtain ⟨u0, k0⟩ : ∃ u0, w2.cell? ⟨g, i, none⟩ = some u0 := ⟨_, (hp.c i).trans (List.getElem?_eq_getElem (by exact hi))⟩
    have HT := Lib.hid (HY.out _ _ v.A v.c (by rw [← hv]; exact htx) hp hs)
    subst hv
    clear hp hx htk htx
    have hfd := fld_t (.int .i64 v.t.t.kind) (.int .i64 (v.t.at_ : Int)) (.int .i64 v.t.t.n) (.slice v.A v.t.t.text.length v.c)
    go_wp2_with fail
    go_ret
    exact HT.out
end
end Go.Proofs.Ytadfoilbcipdjaa.Book
