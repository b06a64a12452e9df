/-
  The program's lines (layer 13): the iterator over the bytes of a filled text.
-/
import Derived.Test.YtamklllmjppinaaVarsPnames
import Derived.Test.YtamklllmjppinaaVarsTable
namespace Go.Proofs.Ytamklllmjppinaa.Vars
open Go.RowKit Go.Shelf
set_option linter.unusedVariables false
set_option linter.unusedSimpArgs false
attribute [local go_sem] Oper.semAt_some

/-- What the loop over pieces reads: the box of yield, the box of the table. -/
structure Fi (w : World) (l By Bk : Nat) (v1 v2 : Value) (V : World) : Prop where
  y : Cel V By 55 [.func (.yield l) #[] #[]]
  k : Cel V Bk 44 [v1, v2]
  low : Below w.heap.size w V
def fits (ns : List ByteArray) (x : Pce) : Prop := (x.k = 1 → (findV ns (str x.t) 0).isSome = true) ∧ x.t.length ≤ 100000
theorem Fi.own_ {w : World} {l By Bk : Nat} {v1 v2 : Value} {V V' : World} {row : Option Nat} {B' : Nat} (h : Fi w l By Bk v1 v2 V) (hB : w.heap.size ≤ B') (hg : V.grownBy V' row) (hr : ∀ r, row = some r → B' ≤ r ∧ ∃ o : Obj, V.heap[r]? = some o ∧ o.isCells = false) : Fi w l By Bk v1 v2 V' :=
  ⟨h.y.own_ hg (fun r e => (hr r e).2), h.k.own_ hg (fun r e => (hr r e).2), ownFrom_below (Nat.le_refl _) hB () V V' row h.low hg hr⟩
theorem Fi.kp {w : World} {l By Bk Bl : Nat} {v1 v2 : Value} {V V' : World} (h : Fi w l By Bk v1 v2 V) (hk : Kp w.heap.size Bl V V') (hy : By ≠ Bl) (hb : Bk ≠ Bl) : Fi w l By Bk v1 v2 V' :=
  ⟨hk.cel h.y hy (by decide) (by decide), hk.cel h.k hb (by decide) (by decide), h.low.trans hk.low⟩
theorem Fi.below {w : World} {l By Bk : Nat} {v1 v2 : Value} {V V' : World} (h : Fi w l By Bk v1 v2 V) (hb : Below V.heap.size V V') : Fi w l By Bk v1 v2 V' :=
  ⟨h.y.below hb h.y.lt, h.k.below hb h.k.lt, h.low.trans (hb.mono h.low.size)⟩
theorem grown_of {V V' : World} (hb : Below V.heap.size V V') : V.grownBy V' none := ⟨hb.os, hb.tape, hb.output, hb.size, fun k hk _ => hb.block k hk⟩
theorem keeps_of {B : Nat} {V V' : World} (hb : Below V.heap.size V V') : KeepsFrom B V V' := ⟨hb.size, fun k o _ hk _ => (hb.block k (Array.getElem?_eq_some_iff.1 hk).1).trans hk⟩
theorem mean_le {ns : List ByteArray} {vv : List (List (BitVec 8))} {x : Pce} (hsm : ∀ v ∈ vv, v.length ≤ 1000) (hx : x.t.length ≤ 100000) : (mean ns vv x).length ≤ 100000 := by
  unfold mean
  split
  · have := val_le (ns := ns) (n := str x.t) hsm; omega
  · exact hx
theorem filt_snoc (b : List (BitVec 8)) (j : Nat) (y : BitVec 8) (hy : b[j]? = some y) : filt (b.take (j + 1)) = filt (b.take j) ++ (if keep y = true then [y] else []) := by
  rw [List.take_add_one, hy, filt_app]
  congr 1
  simp only [Option.toList, filt, List.filter_cons, List.filter_nil]
set_option maxRecDepth 100000 in
set_option maxHeartbeats 4000000 in
theorem filled1 (w : World) (A : Option Addr) (n c : Nat) (s : List (BitVec 8)) (hs : Bs w w.heap.size A n s) (hn : n ≤ 100000) (hcap : n ≤ c)
    (A1 : Option Addr) (n1 c1 : Nat) (ns : List ByteArray) (hns : Cv w A1 (ns.map Value.string)) (hnl : ns.length = n1) (hn1 : n1 ≤ 100000) (A2 : Option Addr) (n2 c2 : Nat) (vs : List V1) (hvs : Vals w w.heap.size A2 vs) (hvl : vs.length = n2) (hn2 : n2 ≤ 100000)
    (hsm : ∀ v ∈ vs.map V1.s, v.length ≤ 1000) (hG : ∀ x ∈ pcs s, fits ns x.2)
    (l Bt Bk Bl : Nat) (J Jx : List (BitVec 8) → World → Prop) (W : World) (hW : Below w.heap.size w W) (hJ : OwnFrom W.heap.size J) (hJx : OwnFrom W.heap.size Jx)
    (hY : ∀ pre x V, J pre V → YieldAt Fence.wide 8 Try.prog l #[v8 x] V fun e V' => KeepsFrom W.heap.size V V' ∧ ((e = .returned (.bool true) ∧ J (pre ++ [x]) V' ∧ Kp w.heap.size Bl V V') ∨ (e = .returned (.bool false) ∧ Jx (pre ++ [x]) V')))
    (hBt : Cel W Bt 22 [.slice A n c]) (hBk : Cel W Bk 44 [.slice A1 n1 c1, .slice A2 n2 c2]) (ht : Bt ≠ Bl) (hk : Bk ≠ Bl) (hBl : Bl < W.heap.size) (h0 : J [] W) :
    CallsIn Fence.wide 9 Try.prog 20 #[.func (.yield l) #[] #[], .pointer (some ⟨Bt, 0, none⟩), .pointer (some ⟨Bk, 0, none⟩)] W fun e W' => (∃ v, e = .returned v) ∧
      ((∃ xs, xs = (pcs s).flatMap (byP ns (vs.map V1.s)) ∧ J xs W') ∨ (∃ pre, (∃ r, pre ++ r = (pcs s).flatMap (byP ns (vs.map V1.s))) ∧ Jx pre W')) := by
  have hsm' : ∀ x : Pce, x.t.length ≤ 100000 → (mean ns (vs.map V1.s) x).length ≤ 100000 := fun x hx => mean_le hsm hx
  have hcon := fun (V : World) (hV : Below w.heap.size w V) (x : Pce) (xA : Option Addr) (xc : Nat) (hx : Bs w w.heap.size xA x.t.length x.t) (hf : fits ns x) => pmeaning V w.heap.size hV.size A1 n1 c1 ns (hns.below hV) hnl hn1 A2 n2 c2 vs (hvs.below (Nat.le_refl _) hV) hvl hn2 x xA x.t.length xc rfl (hx.below hV) hf.1
  generalize vs.map V1.s = vv at *
  refine callsIn_of_wp_marks Try.func20 rfl trivial ?_ rfl
  simp only [Try.ntmps20, List.size_toArray, List.length_cons, List.length_nil, Nat.reduceAdd, Nat.reduceSub, Array.replicate_succ, Array.replicate_zero, List.push_toArray, List.append_toArray, List.nil_append, List.cons_append]
  have kt := hBt.cell 0
  have lt := hBt.lt
  gi_wp2_with ((refine ⟨trivial, ?_⟩; refine (callsIn_wide.2 (ppieces A n c _)).mono ?_; rintro e w' ⟨rfl, rfl⟩))
  have HCON := Lib.hid hcon
  have HSM := Lib.hid hsm'
  obtain ⟨W0, hW0⟩ : ∃ W0, W0 = (W.alloc (.cells #[.func (.yield l) #[] #[]] 55)).alloc (.cells #[.slice A n c] 22) := ⟨_, rfl⟩
  rw [← hW0]
  have hb0 : Below W.heap.size W W0 := by rw [hW0]; exact ((Below.refl _ _).alloc (Nat.le_refl _) _).alloc (by simp) _
  have hsz0 : W0.heap.size = W.heap.size + 1 + 1 := by rw [hW0]; simp
  have cy : Cel W0 W.heap.size 55 [.func (.yield l) #[] #[]] := by rw [hW0]; exact (Cel.new W _ _).alloc _
  have cn : Cel W0 (W.heap.size + 1) 22 [.slice A n c] := by rw [hW0]; exact (by simpa using Cel.new (W.alloc (.cells #[.func (.yield l) #[] #[]] 55)) 22 [.slice A n c])
  have hF0 : Fi w l W.heap.size Bk (.slice A1 n1 c1) (.slice A2 n2 c2) W0 := ⟨cy, hBk.below hb0 hBk.lt, hW.trans (hb0.mono hW.size)⟩
  have hJ0 := hJ _ _ _ none h0 (grown_of hb0) (fun r e => by cases e)
  have hlow : W.heap.size ≤ W0.heap.size := by omega
  have hlow2 : w.heap.size ≤ W0.heap.size := Nat.le_trans hW.size hlow
  have HY := Lib.hid hY
  have HJ := Lib.hid hJ
  clear hcon hsm' hsm hns hvs hnl hvl hY kt lt hBt hBk h0 cy hW0 hb0
  refine wpIn_rangeFunc_ownH rfl (by decide) (gf := 17) (lb := #[.pointer (some ⟨W.heap.size + 1, 0, none⟩)]) rfl trivial (enters_of Try.func17 (by kernel_rfl) rfl)
    (pieces_stops w w.heap.size (fits ns) A n c s hs hn hcap hG (9 - 1) (W.heap.size + 1) Bl W0 hF0.low hlow2 cn (by omega) (by omega)) (fun h k => h.trans k) (loopK_turn hlow2) (Below.refl _ _) (fun _ => rfl)
    (fun pre V => J ((saidQ pre).flatMap (byP ns vv)) V ∧ Fi w l W.heap.size Bk (.slice A1 n1 c1) (.slice A2 n2 c2) V) (fun c pre V => c = .ret ∧ ∃ q, (∃ r, q ++ r = (saidQ pre).flatMap (byP ns vv)) ∧ Jx q V)
    (fun p X Y row h hg hr => ⟨hJ _ X Y row h.1 hg (fun r e => ⟨Nat.le_trans hlow (hr r e).1, (hr r e).2⟩), h.2.own_ hlow2 hg hr⟩)
    (fun c p X Y row h hg hr => by obtain ⟨h1, q, h2, h3⟩ := h; exact ⟨h1, q, h2, hJx _ X Y row h3 hg (fun r e => ⟨Nat.le_trans hlow (hr r e).1, (hr r e).2⟩)⟩) ⟨hJ0, hF0⟩
    (fun x a' V => ∃ Bx, Cel V Bx 41 [.int .i64 (x.1.p.k : Int), .int .i64 (x.1.p.n : Int), .slice x.1.A x.1.p.t.length x.1.c] ∧ a' = { tmps := #[.func (.yield l) #[] #[], .pointer (some ⟨Bt, 0, none⟩), .pointer (some ⟨Bk, 0, none⟩), .pointer (some ⟨W.heap.size, 0, none⟩), undef, .pointer (some ⟨Bx, 0, none⟩), undef, undef, .slice A n c, .func (.func 17) #[] #[.pointer (some ⟨W.heap.size + 1, 0, none⟩)], .int .i64 (x.1.at_ : Int), .agg #[.int .i64 (x.1.p.k : Int), .int .i64 (x.1.p.n : Int), .slice x.1.A x.1.p.t.length x.1.c], undef, undef, undef, undef, undef, undef, undef, undef, undef, undef, undef, undef, undef, undef, undef, undef, undef, undef], defers := [] })
    (fun x a' s X Y row h hg hr => by obtain ⟨Bx, h1, h2⟩ := h; exact ⟨Bx, h1.own_ hg (fun r e => (hr r e).2), h2⟩) ?assign ?body ?done ?stop
  case assign =>
    rintro l2 pre x V K ⟨hJv, hF⟩ hK
    have hb := (Below.refl V.heap.size V).alloc (Nat.le_refl _) (.cells #[.int .i64 (x.1.p.k : Int), .int .i64 (x.1.p.n : Int), .slice x.1.A x.1.p.t.length x.1.c] 41)
    have hKK := hK _ _ (keeps_of hb) (Kp.of_below hb hF.low.size) ⟨HJ.out _ _ _ none hJv (grown_of hb) (fun r e => by cases e), hF.below hb⟩ ⟨V.heap.size, Cel.new V _ _, rfl⟩
    dsimp only [encQ]
    gi_wp2
    exact hKK
  case body =>
    rintro l2 pre x a' V hl ⟨r, hr⟩ ⟨hJv, hF⟩ ⟨Bx, hx, rfl⟩ hlt
    have con := HCON.out V hF.low x.1.p x.1.A x.1.c x.2.1 x.2.2
    have hml := HSM.out x.1.p x.2.2.2
    obtain ⟨at_, p, xA, xc, hX⟩ : ∃ at_ p xA xc, x.1 = ⟨at_, p, xA, xc⟩ := ⟨_, _, _, _, rfl⟩
    have HSD := Lib.hid (show (saidQ (pre ++ [x])).flatMap (byP ns vv) = (saidQ pre).flatMap (byP ns vv) ++ filt (mean ns vv p) by rw [saidQ_snoc, List.flatMap_append, hX]; simp [byP])
    simp only [hX] at hx con hml ⊢
    generalize mean ns vv p = b at *
    generalize (saidQ pre).flatMap (byP ns vv) = base at *
    have ky := hF.y.cell 0
    have kk0 := hF.k.cell 0
    have kk1 := hF.k.cell 1
    have j0 := hx.cell 0
    have j1 := hx.cell 1
    have j2 := hx.cell 2
    have HF := Lib.hid hF
    have HJV := Lib.hid hJv
    generalize p.t.length = tl at *
    generalize p.k = pk at *
    generalize p.n = pn at *
    clear hX hF hJv hx
    gi_wp2
    refine ⟨trivial, CallsIn.inRound l2 ((callsIn_wide.2 con).mono ?_)⟩
    clear con ky kk0 kk1 j0 j1 j2
    rintro e V1 ⟨hb1, A', c', rfl, hby⟩
    have hF1 := HF.out.below hb1
    have HF1 := Lib.hid hF1
    have hJ1 := HJ.out _ _ _ none HJV.out (grown_of hb1) (fun r e => by cases e)
    have HKF1 := Lib.hid (show KeepsFrom W0.heap.size V V1 from keeps_of hb1)
    have HKP1 := Lib.hid (show Kp w.heap.size Bl V V1 from Kp.of_below hb1 HF.out.low.size)
    have HBY := Lib.hid (hby.back hF1.low)
    obtain ⟨bl, hbl⟩ : ∃ bl, bl = b.length := ⟨_, rfl⟩
    rw [← hbl] at HBY hml
    have HBL := Lib.hid hbl
    rw [← hbl]
    clear hby hb1 hF1 HJV HF hbl
    gi_wp2
    gi_loopw [16] (fun v16 wr => ∃ (j : Nat), j ≤ bl ∧ v16 = .int .i64 (j : Int) ∧ J (base ++ filt (b.take j)) wr ∧ Hid (Fi w l W.heap.size Bk (.slice A1 n1 c1) (.slice A2 n2 c2) wr) ∧ Hid (KeepsFrom W0.heap.size V wr) ∧ Hid (Kp w.heap.size Bl V wr)) (fun v16 _ => bl - (intOf v16).toNat)
    case atStart => exact ⟨0, Nat.zero_le _, rfl, by simpa [filt] using hJ1, HF1, HKF1, HKP1⟩
    case round =>
      clear HF1 HKF1 HKP1 hJ1
      obtain ⟨j, hj, rfl, hJw, HFW, HKF, HKP⟩ := hrel
      rcases Nat.lt_or_ge j bl with hlt2 | hge
      · obtain ⟨y, hy⟩ : ∃ y, b[j]? = some y := ⟨_, List.getElem?_eq_getElem (by rw [← HBL.out]; exact hlt2)⟩
        obtain ⟨bd, rfl, _, b0⟩ := (HBY.out.below HFW.out.low).at_ hlt2
        rw [List.getD_eq_getElem?_getD, hy] at b0
        change _ = some (v8 y) at b0
        have con := pomitted wr y
        have hsn := filt_snoc b j y hy
        cases hke : keep y
        · rw [hke] at con hsn
          have HN := Lib.hid (show filt (b.take (j + 1)) = filt (b.take j) by rw [hsn]; simp)
          clear hke hsn hy
          gi_wp2
          refine ⟨trivial, CallsIn.inRound l2 ((callsIn_wide.2 con).mono ?_)⟩
          rintro e w2 ⟨rfl, rfl⟩
          gi_wp2
          refine ⟨fun _ h => (by cases h), ?_⟩
          gi_wp2
          go_roundw
          case rel => exact ⟨j + 1, by omega, by rw [show ((j + 1 : Nat) : Int) = (j : Int) + 1 by omega], by rw [HN.out]; exact hJw, HFW, HKF, HKP⟩
          case measure => simp [intOf]; omega
        · rw [hke] at con hsn
          obtain ⟨fn, tmps, assign, body, hyy, hR⟩ := yield_in (l2 := l2) (yield_any (m' := 6) (HY.out (base ++ filt (b.take j)) y wr hJw))
          have HR := Lib.hid hR
          have ky := HFW.out.y.cell 0
          have HN := Lib.hid (show filt (b.take (j + 1)) = filt (b.take j) ++ [y] by rw [hsn]; simp)
          have HRE := Lib.hid (show ∃ r, base ++ filt (b.take j) ++ [y] ++ r = base ++ filt b from ⟨filt (b.drop (j + 1)), by rw [List.append_assoc base, ← HN.out, List.append_assoc, ← filt_app, List.take_append_drop]⟩)
          clear hke hsn hy hR
          gi_wp2
          refine ⟨trivial, CallsIn.inRound l2 ((callsIn_wide.2 con).mono ?_)⟩
          rintro e w2 ⟨rfl, rfl⟩
          gi_wp2
          refine HR.out.mono ?_
          clear HR hyy
          rintro e W3 ⟨hkf, h⟩
          have HKF3 := Lib.hid (HKF.out.trans ⟨hkf.size, fun k o hk => hkf.same k o (Nat.le_trans hlow hk)⟩)
          rcases h with ⟨rfl, hJ3, hk3⟩ | ⟨rfl, hJx3⟩
          · have HKP3 := Lib.hid (HKP.out.trans hk3)
            have HF3 := Lib.hid (HFW.out.kp hk3 (by omega) hk)
            rw [List.append_assoc, ← HN.out] at hJ3
            clear hkf hk3 ky b0
            gi_wp2
            go_roundw
            case rel => exact ⟨j + 1, by omega, by rw [show ((j + 1 : Nat) : Int) = (j : Int) + 1 by omega], hJ3, HF3, HKF3, HKP3⟩
            case measure => simp [intOf]; omega
          · clear hkf ky b0
            gi_wp2
            exact ⟨HKF3.out, rfl, _, by rw [HSD.out]; exact HRE.out, hJx3⟩
      · have HE := Lib.hid (show b.take j = b from List.take_of_length_le (by rw [← HBL.out]; exact hge))
        gi_wp2
        exact ⟨HKF.out, HKP.out, by rw [HSD.out]; rw [HE.out] at hJw; exact hJw, HFW.out⟩
  case done =>
    rintro D ys V hD hys ⟨hJv, hF⟩ hK
    rw [hys] at hJv
    gi_wp2
    refine ⟨by simp, .inl ⟨_, _, rfl, run_takeDeferred hK, ?_⟩⟩
    refine ⟨_, results_none rfl _ _ _, ⟨_, rfl⟩, .inl ⟨_, rfl, ?_⟩⟩
    exact HJ.out.putObj _ hJv (by omega) hK rfl
  case stop =>
    rintro D c pre V hD ⟨r, hr⟩ ⟨rfl, q, ⟨r2, hq⟩, hJv⟩ hK
    gi_wp2
    refine ⟨by simp, .inl ⟨_, _, rfl, run_takeDeferred hK, ?_⟩⟩
    refine ⟨_, results_none rfl _ _ _, ⟨_, rfl⟩, .inr ⟨q, ⟨r2 ++ r.flatMap (byP ns vv), ?_⟩, ?_⟩⟩
    · rw [← List.append_assoc, hq, ← hr, List.flatMap_append]
    · exact hJx.putObj _ hJv (by omega) hK rfl
end Go.Proofs.Ytamklllmjppinaa.Vars
