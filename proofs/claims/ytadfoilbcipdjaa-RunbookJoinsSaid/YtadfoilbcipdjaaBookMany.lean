/-
  The program's runbook (layer 12): maybe, inOrder, many, for any parts.
-/
import Derived.Test.YtadfoilbcipdjaaBookSmall
namespace Go.Proofs.Ytadfoilbcipdjaa.Book
open Go.RowKit
open Go.Proofs.Ytadfoilbcipdjaa.Lex (Tok Tk B cut Tv Tx tflat Cr cr_ry Ptk)
set_option linter.unusedVariables false
set_option linter.unusedSimpArgs false

abbrev mv (k g : Nat) : Value := .func (.func k) #[.pointer (some ⟨g, 0, none⟩)] #[]
def Enters (k : Nat) : Prop := ∀ args W, (callFunc k args).run Try.prog W = .ok (.enter k args) W
theorem PtSays.bool {W w w' : World} {g : Nat} {o : Bool} {r : Except T Ps} {e : Ending} (h : PtSays W w g o r e w') : ∃ b, e = .returned (.bool b) ∧ ((∃ s', r = .ok s' ∧ b = true ∧ Pb W w' g o s') ∨ ∃ m s', r = .error m ∧ b = false ∧ s'.l = m ∧ Pb W w' g false s') := by
  unfold PtSays at h
  cases r with
  | error m => obtain ⟨_, rfl, s', h1, h2⟩ := h; exact ⟨false, rfl, .inr ⟨m, s', rfl, rfl, h1, h2⟩⟩
  | ok s' => obtain ⟨_, rfl, h2⟩ := h; exact ⟨true, rfl, .inl ⟨s', rfl, rfl, h2⟩⟩
theorem PtSays.of {W w0 w w' : World} {g : Nat} {o : Bool} {r : Except T Ps} {e : Ending} (h : PtSays W w g o r e w') (hc : Chp w0 w) : PtSays W w0 g o r e w' := ⟨hc.trans h.1, h.2⟩
theorem Jj.takeS {s : Ps} (h : Jj s) : Jj (takeS s) := by
  cases hl : s.l with
  | nil => unfold Book.takeS; rw [hl]; exact h
  | cons x m =>
    obtain ⟨t1, t2, t3⟩ := takeS_cn hl
    exact ⟨by rw [t2]; have := h.1; omega, by rw [t3]; have := h.2; omega⟩
section
variable {W w : World} {g : Nat} {o : Bool} {s : Ps}
set_option maxRecDepth 100000 in
set_option maxHeartbeats 1000000 in
theorem maybe_ {k : Nat} {F : Pf} (hE : Enters k) (hk : Contract W g o o k F) (h : Pb W w g o s) (hj : Jj s) (wo : List (BitVec 8)) (sw : ByteArray) (hsw : sw = str wo) :
    Calls Try.prog 29 #[pp g, .string sw, mv k g] w (PtSays W w g o (fMay wo F s)) := by
  obtain ⟨K, x, h⟩ := h
  have con := hasWord_ h wo sw hsw
  obtain ⟨b, hb⟩ : ∃ b, b = wd wo s.l := ⟨_, rfl⟩
  unfold HwSays at con
  rw [← hb] at con
  have hE' := hE
  unfold Enters at hE'
  cases b with
  | false =>
    have HEND := Lib.hid (show ∀ w' x', Chp w w' → Pw W w' g K o s x' → PtSays W w g o (fMay wo F s) (.returned (.bool true)) w' from fun w' x' hc hp => by rw [fMay_miss hb.symm]; exact ⟨hc, rfl, K, x', hp⟩)
    clear h hb hk hj hsw hE
    go_enter Try.func29, Try.ntmps29
    go_wp2_with fail
    refine con.mono ?_
    clear con
    rintro e w1 ⟨rfl, hc, x', hp⟩
    have HT := Lib.hid (HEND.out w1 x' hc hp)
    clear hc hp
    go_wp2_with fail
    go_ret
    exact HT.out
  | true =>
    have HEND := Lib.hid (show ∀ w', Chp w w' → Pb W w' g o (takeS s) → Calls Try.prog k #[pp g] w' (PtSays W w g o (fMay wo F s)) from fun w' hc hp => by
      rw [fMay_hit hb.symm]
      exact (hk w' _ hp hj.takeS).mono fun e w2 h2 => h2.of hc)
    clear h hb hk hj hsw hE
    go_enter Try.func29, Try.ntmps29
    go_wp2_with fail
    refine con.mono ?_
    clear con
    rintro e w1 ⟨rfl, hc, x', hp⟩
    have con2 := HEND.out w1 hc ⟨K, x', hp⟩
    clear hc hp
    go_wp2_with fail
    refine con2.mono ?_
    clear con2
    rintro e w2 h2
    have HT := Lib.hid h2
    obtain ⟨b, rfl, _⟩ := h2.bool
    clear h2
    go_wp2_with fail
    go_ret
    exact HT.out
/-- The parts that inOrder is given. -/
structure Pts (W : World) (g : Nat) (fl : Nat → Bool) (ps : List (Nat × Pf)) : Prop where
  con : ∀ i q, ps[i]? = some q → Contract W g (fl i) (fl (i + 1)) q.1 q.2
  ent : ∀ q ∈ ps, Enters q.1
  cn : ∀ i q, ps[i]? = some q → i + 1 < ps.length → Cn 0 q.2
set_option maxRecDepth 100000 in
set_option maxHeartbeats 1000000 in
theorem inOrder_ {ps : List (Nat × Pf)} {fl : Nat → Bool} (hps : Pts W g fl ps) (h : Pb W w g (fl 0) s) (hj : Jj s) {pb n c : Nat} (hc : Cel w pb 64 (ps.map fun q => mv q.1 g)) (hn : n = ps.length) (hn2 : n ≤ 100) :
    Calls Try.prog 12 #[.slice (some ⟨pb, 0, none⟩) n c] w (PtSays W w g (fl n) (fAll (ps.map (·.2)) s)) := by
  have HP := Lib.hid hps
  have HC := Lib.hid hc
  have HB := Lib.hid h
  have HJ := Lib.hid hj
  have HN := Lib.hid hn
  clear hps hc h hj hn
  go_enter Try.func12, Try.ntmps12
  go_wp2_with fail
  go_loopw [7] (fun v7 wr => ∃ (i : Nat) (s' : Ps), i ≤ n ∧ v7 = .int .i64 (i : Int) ∧ Pb W wr g (fl i) s' ∧ Chp w wr ∧ (i < n → Jj s') ∧ Hid (fAll (ps.map (·.2)) s = fAll ((ps.drop i).map (·.2)) s')) (fun v7 _ => n - (intOf v7).toNat)
  case atStart => exact ⟨0, s, Nat.zero_le _, rfl, HB.out, Chp.refl _, fun _ => HJ.out, Lib.hid (by rw [List.drop_zero])⟩
  case round =>
    obtain ⟨i, s', hi, rfl, hp, hch, hj, HK⟩ := hrel
    obtain ⟨W0, rfl⟩ : ∃ W0, W0 = wr := ⟨_, rfl⟩
    have HCH := Lib.hid hch
    have HPB := Lib.hid hp
    have HJ2 := Lib.hid hj
    clear hch hp hj
    rcases Nat.lt_or_ge i n with hlt | hge
    · obtain ⟨q, hq⟩ : ∃ q, ps[i]? = some q := ⟨_, List.getElem?_eq_getElem (by rw [← HN.out]; exact hlt)⟩
      have hm := List.mem_of_getElem? hq
      have con := HP.out.con i q hq W0 s' HPB.out (HJ2.out hlt)
      have hE := HP.out.ent q hm
      have k0 : W0.cell? ⟨pb, i, none⟩ = some (mv q.1 g) := by
        rw [Cel.cell (Cel.chp HC.out HCH.out (by decide)) i, List.getElem?_map, hq]
        rfl
      have hd : ps.drop i = q :: ps.drop (i + 1) := by
        obtain ⟨h1, h2⟩ := List.getElem?_eq_some_iff.1 hq
        rw [List.drop_eq_getElem_cons h1, h2]
      have HK1 := Lib.hid (show fAll (ps.map (·.2)) s = fThen q.2 (fAll ((ps.drop (i + 1)).map (·.2))) s' by rw [HK.out, hd]; rfl)
      have HCN := Lib.hid (show ∀ s2, q.2 s' = .ok s2 → i + 1 < n → Jj s2 from fun s2 h2 h3 => (HJ2.out hlt).go (HP.out.cn i q hq (by rw [← HN.out]; exact h3)) h2)
      unfold Enters at hE
      clear hq hm hd
      obtain ⟨kf, F⟩ := q
      dsimp only at *
      go_wp2_with fail
      refine con.mono ?_
      clear con k0
      rintro e w2 h2
      have HC2 := Lib.hid (HCH.out.trans h2.1)
      obtain ⟨b, rfl, ⟨s2, hF, rfl, hp2⟩ | ⟨m, s2, hF, rfl, hl2, hp2⟩⟩ := h2.bool
      · have HK2 := Lib.hid (show fAll (ps.map (·.2)) s = fAll ((ps.drop (i + 1)).map (·.2)) s2 by rw [HK1.out, fThen_ok hF])
        have HP2 := Lib.hid hp2
        have HJ3 := Lib.hid (HCN.out s2 hF)
        clear h2 hF hp2
        go_wp2_with fail
        exact ⟨⟨i + 1, s2, hlt, by rw [show ((i + 1 : Nat) : Int) = (i : Int) + 1 by omega], HP2.out, HC2.out, HJ3.out, HK2⟩, by simp [intOf]; omega⟩
      · have HEND := Lib.hid (show PtSays W w g (fl n) (fAll (ps.map (·.2)) s) (.returned (.bool false)) w2 from ⟨HC2.out, by rw [HK1.out, fThen_bad hF]; exact ⟨rfl, s2, hl2, hp2⟩⟩)
        clear h2 hF hp2 hl2
        go_wp2_with fail
        go_ret
        exact HEND.out
    · obtain rfl : i = n := by omega
      have HEND := Lib.hid (show PtSays W w g (fl i) (fAll (ps.map (·.2)) s) (.returned (.bool true)) W0 from ⟨HCH.out, by
        rw [HK.out, List.drop_eq_nil_of_le (by rw [← HN.out]; exact Nat.le_refl _)]
        exact ⟨rfl, HPB.out⟩⟩)
      go_wp2_with fail
      go_ret
      exact HEND.out
def lenOf : Value → Nat
  | .slice _ n _ => n
  | _ => 0
set_option maxRecDepth 100000 in
set_option maxHeartbeats 1000000 in
theorem many_ {pb n c : Nat} {ps : List (Nat × Pf)} {fl : Nat → Bool} (hps : Pts W g fl ps) (hcn : Cn 1 (fAll (ps.map (·.2)))) (h : Pb W w g (fl 0) s) (hfl : fl n = fl 0) (hj : Ii s) (hc : Cel w pb 64 (ps.map fun q => mv q.1 g)) (hn : n = ps.length) (hn2 : n ≤ 100) (wo : List (BitVec 8)) (sw : ByteArray) (hsw : sw = str wo) :
    Calls Try.prog 31 #[pp g, .string sw, .slice (some ⟨pb, 0, none⟩) n c] w (PtSays W w g (fl 0) (fMany wo (fAll (ps.map (·.2))) (s.l.length + 1) s)) := by
  have HP := Lib.hid hps
  have HC := Lib.hid hc
  have HB := Lib.hid h
  have HJ := Lib.hid hj
  have HN := Lib.hid hn
  have HSW := Lib.hid hsw
  have HCN := Lib.hid hcn
  clear hps hc h hj hn hsw hcn
  go_enter Try.func31, Try.ntmps31
  go_wp2_with fail
  go_loopw [] (fun wr => ∃ (f : Nat) (s' : Ps), s'.l.length < f ∧ Pb W wr g (fl 0) s' ∧ Chp w wr ∧ Ii s' ∧ Hid (fMany wo (fAll (ps.map (·.2))) (s.l.length + 1) s = fMany wo (fAll (ps.map (·.2))) f s')) (fun wr => lenOf ((wr.cell? ⟨g, 0, none⟩).getD undef))
  case atStart => exact ⟨_, s, Nat.lt_succ_self _, HB.out, Chp.refl _, HJ.out, Lib.hid rfl⟩
  case round =>
    obtain ⟨f, s', hf, hp, hch, hj, HK⟩ := hrel
    obtain ⟨W0, rfl⟩ : ∃ W0, W0 = wr := ⟨_, rfl⟩
    have HCH := Lib.hid hch
    have HPB := Lib.hid hp
    have HJ2 := Lib.hid hj
    have hlen : ∀ (V : World) (z : Ps), Pb W V g (fl 0) z → lenOf ((V.cell? ⟨g, 0, none⟩).getD undef) = z.l.length := fun V z hz => by
      obtain ⟨K, x, hz⟩ := hz
      rw [hz.c 0]
      rfl
    have HLEN := Lib.hid hlen
    obtain ⟨K, x, hw⟩ := hp
    have con := hasWord_ hw wo sw HSW.out
    clear hch hj hlen hw
    obtain ⟨b, hb⟩ : ∃ b, b = wd wo s'.l := ⟨_, rfl⟩
    unfold HwSays at con
    rw [← hb] at con
    cases b with
    | false =>
      have HK1 := Lib.hid (show fMany wo (fAll (ps.map (·.2))) (s.l.length + 1) s = .ok s' by rw [HK.out, fMany_end hb.symm])
      clear hb
      go_wp2_with fail
      refine con.mono ?_
      clear con
      rintro e w2 ⟨rfl, hc2, x2, hp2⟩
      have HEND := Lib.hid (show PtSays W w g (fl 0) (fMany wo (fAll (ps.map (·.2))) (s.l.length + 1) s) (.returned (.bool true)) w2 from ⟨HCH.out.trans hc2, by rw [HK1.out]; exact ⟨rfl, K, x2, hp2⟩⟩)
      clear hc2 hp2
      go_wp2_with fail
      go_ret
      exact HEND.out
    | true =>
      obtain ⟨f, rfl⟩ : ∃ f', f = f' + 1 := ⟨f - 1, by omega⟩
      have HK1 := Lib.hid (show fMany wo (fAll (ps.map (·.2))) (s.l.length + 1) s = fThen (fAll (ps.map (·.2))) (fMany wo (fAll (ps.map (·.2))) f) (takeS s') by rw [HK.out, fMany_go hb.symm])
      have hj2 := HJ2.out.take hb.symm
      have ht : (takeS s').l.length + 1 = s'.l.length := by
        obtain ⟨y, m, e⟩ := wd_cons hb.symm
        exact (takeS_cn e).1
      have HJT := Lib.hid hj2
      have HT := Lib.hid ht
      have HF := Lib.hid hf
      clear hb hj2 ht hf
      go_wp2_with fail
      refine con.mono ?_
      clear con
      rintro e w2 ⟨rfl, hc2, x2, hp2⟩
      have con2 := inOrder_ (s := takeS s') (n := n) (c := c) HP.out ⟨K, x2, hp2⟩ HJT.out (Cel.chp HC.out (HCH.out.trans hc2) (by decide)) HN.out hn2
      rw [hfl] at con2
      have HC2 := Lib.hid (HCH.out.trans hc2)
      clear hc2 hp2
      go_wp2_with fail
      refine con2.mono ?_
      clear con2
      rintro e w3 h3
      have HC3 := Lib.hid (HC2.out.trans h3.1)
      obtain ⟨b, rfl, ⟨s2, hF, rfl, hp3⟩ | ⟨m, s2, hF, rfl, hl3, hp3⟩⟩ := h3.bool
      · have HK2 := Lib.hid (show fMany wo (fAll (ps.map (·.2))) (s.l.length + 1) s = fMany wo (fAll (ps.map (·.2))) f s2 by rw [HK1.out, fThen_ok hF])
        have hcnt := HCN.out _ _ hF
        have HP3 := Lib.hid hp3
        have hI : Ii s2 := ⟨by have := hcnt.2.1; have := HJT.out.1; omega, by have := hcnt.2.2; have := HJT.out.2; omega⟩
        have hL : s2.l.length < s'.l.length := by have := hcnt.1; have := HT.out; omega
        have HI := Lib.hid hI
        have HL := Lib.hid hL
        clear h3 hF hp3 hcnt hI hL
        go_wp2_with fail
        exact ⟨⟨f, s2, by have := HL.out; have := HF.out; omega, HP3.out, HC3.out, HI.out, HK2⟩, by rw [HLEN.out _ _ HP3.out, HLEN.out _ _ HPB.out]; exact HL.out⟩
      · have HEND := Lib.hid (show PtSays W w g (fl 0) (fMany wo (fAll (ps.map (·.2))) (s.l.length + 1) s) (.returned (.bool false)) w3 from ⟨HC3.out, by rw [HK1.out, fThen_bad hF]; exact ⟨rfl, s2, hl3, hp3⟩⟩)
        clear h3 hF hp3 hl3
        go_wp2_with fail
        go_ret
        exact HEND.out
end
end Go.Proofs.Ytadfoilbcipdjaa.Book
