/-
  The law StorePlays walked.
-/
import Derived.Test.YtdaknfepcbooeaaGreatMStoA
import Derived.Test.YtdaknfepcbooeaaGreatMDiskC
import Derived.Test.YtdaknfepcbooeaaGreatMStoF
import Derived.Test.YtdaknfepcbooeaaGreatMStoSame
import Derived.Test.YtdaknfepcbooeaaGreatMStoD
import Derived.Deep.CutBlock
import Derived.Deep.CutRange
import Derived.Deep.DeepCutAuto
namespace Go.Proofs.YtdaknfepcbooeaaGreat.Sto
open Go.RowKit
open Go.Proofs.YtdaknfepcbooeaaGreat.Disk (M Sc Dk Fk Chg Dob Rob Bo Bn append sync remove there rows Ok Inv fit64 crash up fail)
open Go.Proofs.YtdaknfepcbooeaaGreat.Segm (IsDd)
open Go.Proofs.YtdaknfepcbooeaaGreat.Frag (Rd Rv)
open Go.Proofs.YtdaknfepcbooeaaGreat.Ord
set_option linter.unusedVariables false
set_option linter.unusedSimpArgs false

theorem Fk_stb {B d : Nat} {m : M} {w w' : World} (h : Fk w B d m) (hc : Chg B Stb w w') : Fk w' B d m := by
  obtain ⟨A, c, lv, kv, left, h⟩ := h
  exact ⟨A, c, lv, kv, left, h.chg hc (by rintro cs t fz (rfl | rfl | rfl | rfl) (h | h | h | h) <;> revert h <;> decide)⟩
theorem Rt_stb {B t d : Nat} {s : St} {w w' : World} (h : Rt w B t d s) (hc : Chg B Stb w w') : Rt w' B t d s := h.chg hc (by rintro cs fz (h | h | h | h) <;> revert h <;> decide) (by rintro cs fz (h | h | h | h) <;> revert h <;> decide)
theorem Dk_utb {B d : Nat} {m : M} {w w' : World} (h : Dk w B d m) (hc : Chg B Utb w w') : Dk w' B d m := by
  obtain ⟨b, vs, kv, h⟩ := h
  exact ⟨b, vs, kv, h.chg hc (by rintro cs t fz (rfl | rfl | rfl) (h | h | h | h) <;> revert h <;> decide) (fun _ _ h => h)⟩
theorem Ss_utb {B q d : Nat} {s : St} {w w' : World} (h : Ss w B q d s) (hc : Chg B Utb w w') : Ss w' B q d s := h.chg hc (by rintro cs fz (h | h | h | h) <;> revert h <;> decide) (by rintro cs fz (h | h | h | h) <;> revert h <;> decide)
theorem By_stb {B : Nat} {w w' : World} {A : Option Addr} {n : Nat} {bs : List (BitVec 8)} (h : By w A n bs) (hc : Chg B Stb w w') : By w' A n bs := h.keep fun k cs fz hk => by
  rw [hk]; exact hc.block _ _ hk (.inr (by rintro (h | h | h | h) <;> revert h <;> decide))
theorem Dk_inv7 {w : World} {B d : Nat} {m : M} (h : Dk w B d m) : Inv m := by obtain ⟨_, _, _, h⟩ := h; exact h.inv
theorem deed_stb {B g : Nat} {w w' : World} {cs : List Value} (h : Cel w g 43 cs) (hc : Chg B Stb w w') : Cel w' g 43 cs := Disk.Cel.chg h hc (by rintro (h | h | h | h) <;> revert h <;> decide)
theorem deed_utb {B g : Nat} {w w' : World} {cs : List Value} (h : Cel w g 43 cs) (hc : Chg B Utb w w') : Cel w' g 43 cs := Disk.Cel.chg h hc (by rintro (h | h | h | h) <;> revert h <;> decide)
theorem dob_st {B : Nat} {w w' : World} (hc : Chg B Dob w w') : Chg B Stb w w' := hc.mono (Nat.le_refl _) dob_stb
theorem rob_ut {B : Nat} {w w' : World} (hc : Chg B Rob w w') : Chg B Utb w w' := hc.mono (Nat.le_refl _) rob_utb
theorem rec_bn {w : World} {B g n : Nat} {x : BitVec 8} (h : Cel w g 5 ((recB n x).map v8)) : Bn w B (some ⟨g, 0, none⟩) n (recB n x) :=
  ⟨recB_len n x, fun _ => ⟨_, _, rfl, h, .inr (by rintro (h | h) <;> revert h <;> decide), fun j hj => by
    rw [Addr.add_lit, Nat.zero_add, h.cell j, List.getElem?_map, List.getElem?_eq_getElem (by rw [recB_len]; exact hj), List.getD_eq_getElem?_getD, List.getElem?_eq_getElem (by rw [recB_len]; exact hj)]
    rfl⟩⟩
/-- Both disks, alike. -/
structure TwoT (w W : World) (d d2 : Nat) (m : M) : Prop where
  dk : Dk W w.heap.size d m
  fk : Fk W w.heap.size d2 m
  ok : Ok m
  room : m.room ≤ 60
  low : Below w.heap.size w W
namespace TwoT
variable {w W W' : World} {d d2 : Nat} {m : M}
theorem below (h : TwoT w W d d2 m) (hb : Below W.heap.size W W') : TwoT w W' d d2 m := ⟨h.dk.below hb, h.fk.below hb, h.ok, h.room, h.low.trans (hb.mono h.low.size)⟩
theorem inv (h : TwoT w W d d2 m) : Inv m := Dk_inv7 h.dk
theorem few (h : TwoT w W d d2 m) : ∀ f, (rows f m.l).length ≤ 200 := fun f => by
  have h1 := Disk.rows_len f m.l
  have h2 := h.inv.most
  have h3 := h.room
  omega
end TwoT
/-- Both stores, alike. -/
structure Al (w W : World) (d d2 q t : Nat) (k : Nat) (s : St) : Prop where
  ss : Ss W w.heap.size q d s
  rt : Rt W w.heap.size t d2 s
  own : w.heap.size ≤ q ∧ w.heap.size ≤ t
  fits : Fits k s
  sound : Sound s
namespace Al
variable {w W W' : World} {d d2 q t k : Nat} {s : St}
theorem below (h : Al w W d d2 q t k s) (hb : Below W.heap.size W W') : Al w W' d d2 q t k s := ⟨h.ss.below hb, h.rt.below hb, h.own, h.fits, h.sound⟩
theorem stb (h : Al w W d d2 q t k s) (hc : Chg w.heap.size Dob W W') : Al w W' d d2 q t k s := ⟨h.ss.chg hc (by rintro cs fz (h | h) <;> revert h <;> decide) (by rintro cs fz (h | h) <;> revert h <;> decide), Rt_stb h.rt (dob_st hc), h.own, h.fits, h.sound⟩
theorem utb (h : Al w W d d2 q t k s) (hc : Chg w.heap.size Rob W W') : Al w W' d d2 q t k s := ⟨Ss_utb h.ss (rob_ut hc), Rt.rob h.rt hc, h.own, h.fits, h.sound⟩
theorem more (h : Al w W d d2 q t k s) : Al w W d d2 q t (k + 1) s := ⟨h.ss, h.rt, h.own, fit_more h.fits (Nat.le_succ _), h.sound⟩
theorem ep (h : Al w W d d2 q t k s) : ∀ g, s.g = some g → g.ep = s.ep := fun g e => (h.fits g e).2.1
theorem file (h : Al w W d d2 q t k s) : ∀ g, s.g = some g → -9223372036854775808 ≤ g.file ∧ g.file < 9223372036854775808 := fun g e => by rw [(h.fits g e).1]; exact fileOf_fit7 _
theorem size (h : Al w W d d2 q t k s) (hk : k ≤ 30) : ∀ g, s.g = some g → g.file < 9223372036854775808 ∧ g.size < 8000000000000000000 := fun g e => ⟨(h.file g e).2, by have := (h.fits g e).2.2; omega⟩
end Al
/-- Both stores, alike, or none. -/
def Are (w W : World) (d d2 : Nat) (v7 v11 : Value) (k : Nat) : Option St → Prop
  | none => v7 = .pointer none ∧ v11 = .pointer none
  | some s => ∃ q t, v7 = .pointer (some ⟨q, 0, none⟩) ∧ v11 = .pointer (some ⟨t, 0, none⟩) ∧ Al w W d d2 q t k s
namespace Are
variable {w W W' : World} {d d2 k : Nat} {v7 v11 : Value} {o : Option St}
theorem map (h : Are w W d d2 v7 v11 k o) {k' : Nat} (f : ∀ q t s, Al w W d d2 q t k s → Al w W' d d2 q t k' s) : Are w W' d d2 v7 v11 k' o := by
  cases o with
  | none => exact h
  | some s => obtain ⟨q, t, h1, h2, h3⟩ := h; exact ⟨q, t, h1, h2, f _ _ _ h3⟩
theorem below (h : Are w W d d2 v7 v11 k o) (hb : Below W.heap.size W W') : Are w W' d d2 v7 v11 k o := h.map fun _ _ _ h => h.below hb
theorem stb (h : Are w W d d2 v7 v11 k o) (hc : Chg w.heap.size Dob W W') : Are w W' d d2 v7 v11 k o := h.map fun _ _ _ h => h.stb hc
theorem utb (h : Are w W d d2 v7 v11 k o) (hc : Chg w.heap.size Rob W W') : Are w W' d d2 v7 v11 k o := h.map fun _ _ _ h => h.utb hc
theorem more (h : Are w W d d2 v7 v11 k o) : Are w W d d2 v7 v11 (k + 1) o := h.map fun _ _ _ h => h.more
end Are
theorem below_drewN (w : World) (n : Nat) : Below w.heap.size w (w.drewN n) := ⟨rfl, rfl, rfl, Nat.le_refl _, fun _ _ => rfl⟩
theorem open0 (r : Nat) : openT ⟨r, [], [], false, none⟩ = (0, 0#32, []) := by
  unfold openT
  rw [if_neg (by show ¬ (false = true); decide), if_pos (by simp)]
theorem quiet7 {P : Program} {f : FuncId} {args : Array Value} {w : World} {n : Nat} {v : Value} (h : Calls P f args (w.drewN n) fun e w' => e = .returned v ∧ w.drewN n = w') : Calls P f args (w.drewN n) fun e w'' => e = .returned v ∧ ∃ m, w'' = w.drewN m :=
  Calls.quiet_of_same (h.mono fun _ _ x => ⟨x.1, x.2.symm⟩)
theorem cell4' {w : World} {g : Nat} {t : TypeId} {a0 a1 a2 a3 : Value} (h : Cel w g t [a0, a1, a2, a3]) : w.cell? ⟨g, 0, none⟩ = some a0 ∧ w.cell? ⟨g, 1, none⟩ = some a1 ∧ w.cell? ⟨g, 2, none⟩ = some a2 ∧ w.cell? ⟨g, 3, none⟩ = some a3 :=
  ⟨h.cell 0, h.cell 1, h.cell 2, h.cell 3⟩
theorem recN512 {k : Nat} (h : recN 512 = k) : k = 512 := h.symm

set_option maxRecDepth 100000 in
set_option maxHeartbeats 8000000 in
theorem plays_walk (r : Int) (hr : fit64 r) (A : Option Addr) (l c : Nat) (w : World) (h : IsV w (.recs [.int .i64, .int .i64, .int .u8, .slice .bool]) (.slice A l c)) :
    Calls Tryz.prog 3 #[.int .i64 r, .slice A l c] w fun e w' => e = .returned (.bool true) ∧ Below w.heap.size w w' := by
  obtain ⟨hlen, hdeeds⟩ := IsDd.of_isv h
  have con := few_ok w A l c hlen hdeeds
  have HDS := Lib.hid hdeeds
  unfold fit64 at hr
  unfold maxLen at hlen
  clear hdeeds h
  go_enter Tryz.func3, Tryz.ntmps3
  go_wp2_with fail
  refine con.mono ?_
  clear con
  rintro e w1 ⟨b, rfl, hb30, rfl⟩
  cases b
  · go_wp2_with fail
    refine (knows w).mono ?_
    rintro e w2 ⟨rfl, hb⟩
    go_wp2_with fail
    go_ret
    exact ⟨rfl, hb⟩
  have hl30 := hb30 rfl
  clear hb30
  by_cases hb1 : r < 1
  · go_wp2_with fail
    refine (knows w).mono ?_
    rintro e w3 ⟨rfl, hb⟩
    go_wp2_with fail
    go_ret
    exact ⟨rfl, hb⟩
  by_cases hb2 : 60 < r
  · go_wp2_with fail
    refine (knows w).mono ?_
    rintro e w3 ⟨rfl, hb⟩
    go_wp2_with fail
    go_ret
    exact ⟨rfl, hb⟩
  obtain ⟨rn, hrn⟩ : ∃ rn : Nat, r = (rn : Int) := ⟨r.toNat, by omega⟩
  subst hrn
  have hr1 : 1 ≤ rn := by omega
  have hr2 : rn ≤ 60 := by omega
  have con := Disk.new_ok w w.heap.size rn (Nat.le_refl _) hr1 (by omega)
  clear hb1 hb2 hr
  go_wp2_with fail
  refine con.mono ?_
  clear con
  rintro e w2 ⟨d, rfl, hd2, hb2⟩
  have con := open_call w2 w.heap.size d ⟨rn, [], [], false, none⟩ hd2 (fun f => Nat.zero_le _)
  rw [open0] at con
  have HD2 := Lib.hid hd2
  have HB2 := Lib.hid hb2
  clear hd2 hb2
  go_wp2_with fail
  refine con.mono ?_
  clear con
  rintro r w3 hos
  obtain ⟨q, A3, c3, rs3, hq, rfl, hrs3, hown3, hs3⟩ := hos.2 rfl
  have hr0 : rs3 = [] := List.map_eq_nil_iff.1 hrs3
  subst hr0
  have HB3 := Lib.hid (HB2.out.trans (hown3.low.mono HB2.out.size))
  have HQ := Lib.hid (show w.heap.size ≤ q from Nat.le_trans HB2.out.size hq)
  have HS3 := Lib.hid (show Ss w3 w.heap.size q d ⟨0#32, none, false⟩ from hs3)
  have HD3 := Lib.hid (HD2.out.below hown3.low)
  clear hos hrs3 hown3 hs3 hq HD2 HB2
  have hcw := Cel.new w3 38 [.int .i64 rn, .slice none 0 0, .slice none 0 0, .bool false, .bool false, .int .i64 0, .slice none 0 0]
  have hf0 : Fk (w3.alloc (.cells #[.int .i64 rn, .slice none 0 0, .slice none 0 0, .bool false, .bool false, .int .i64 0, .slice none 0 0] 38)) w.heap.size w3.heap.size ⟨rn, [], [], false, none⟩ :=
    ⟨none, 0, .slice none 0 0, .slice none 0 0, 0, ⟨Inv.new rn hr1 (by omega), hcw, HB3.out.size, Nat.le_refl _, Disk.Is.nil_ _ _, World.ownsRow_nil _ _ _ _, fun k ks e => by cases e⟩⟩
  have hb0 : Below w3.heap.size w3 (w3.alloc (.cells #[.int .i64 rn, .slice none 0 0, .slice none 0 0, .bool false, .bool false, .int .i64 0, .slice none 0 0] 38)) := (Below.refl _ _).alloc (Nat.le_refl _) _
  have HT0 : Hid (TwoT w (w3.alloc (.cells #[.int .i64 rn, .slice none 0 0, .slice none 0 0, .bool false, .bool false, .int .i64 0, .slice none 0 0] 38)) d w3.heap.size ⟨rn, [], [], false, none⟩) :=
    Lib.hid ⟨HD3.out.below hb0, hf0, (fun k ks e => by cases e), hr2, HB3.out.trans (hb0.mono HB3.out.size)⟩
  have HS0 := Lib.hid (HS3.out.below hb0)
  clear hcw hf0 hb0 HD3 HS3 HB3
  go_wp2_with fail
  obtain ⟨d2, hd2⟩ : ∃ d2, d2 = w3.heap.size := ⟨_, rfl⟩
  rw [← hd2] at HT0 ⊢
  clear hd2
  generalize w3.alloc (.cells #[.int .i64 rn, .slice none 0 0, .slice none 0 0, .bool false, .bool false, .int .i64 0, .slice none 0 0] 38) = W0 at *
  have con := ropen_call W0 w.heap.size d2 ⟨rn, [], [], false, none⟩ HT0.out.fk (fun f => Nat.zero_le _)
  rw [open0] at con
  refine con.mono ?_
  clear con
  rintro r w4 hos
  obtain ⟨t, A4, c4, rs4, ht, rfl, -, hown4, hs4⟩ := hos.2 rfl
  have HT4 := Lib.hid (HT0.out.below hown4.low)
  have HA4 : Hid (Are w w4 d d2 (.pointer (some ⟨q, 0, none⟩)) (.pointer (some ⟨t, 0, none⟩)) 0 (some ⟨0#32, none, false⟩)) := Lib.hid ⟨q, t, rfl, rfl, HS0.out.below hown4.low, hs4, ⟨HQ.out, Nat.le_trans HT0.out.low.size ht⟩, fit_none _ _, fun _ _ e => by cases e⟩
  clear hos hown4 hs4 ht HT0 HS0 HQ
  go_wp2_with fail
  go_loopw [7, 11, 14] (fun v7 v11 i wr => ∃ (k : Nat) (m : M) (o : Option St), k ≤ l ∧ i = .int .i64 k ∧ TwoT w wr d d2 m ∧ Are w wr d d2 v7 v11 k o) (fun _ _ i _ => l - (Go.RowKit.intOf i).toNat)
  case atStart => exact ⟨0, _, _, Nat.zero_le _, rfl, HT4.out, HA4.out⟩
  case round =>
    clear HT4 HA4
    obtain ⟨k, m, o, hk, rfl, hT, hO⟩ := hrel
    have HT := Lib.hid hT
    have HO := Lib.hid hO
    clear hT hO
    by_cases hlt : k < l
    · skip
      obtain ⟨x, hA, hDD⟩ := HDS.out (by omega)
      subst hA
      obtain ⟨D, hD⟩ := hDD k hlt
      obtain ⟨c0, c1, c2, c3⟩ := hD.at_ HT.out.low
      obtain ⟨what, n, bb, kA, kc, ks⟩ := D
      have HKP := Lib.hid (fun (V : World) (hV : Below w.heap.size w V) => hD.keepAt hV)
      have HKL := Lib.hid hD.len
      have hn := hD.fits.2
      dsimp only at c0 c1 c2 c3 hn HKP HKL
      unfold fit64 at hn
      have hW1b := below_at wr (.cells #[.int .i64 what, .int .i64 n, .int .u8 (bb.toNat : Int), .slice kA ks.length kc] 43)
      have hv1 := Cel.new wr 43 [.int .i64 what, .int .i64 n, .int .u8 (bb.toNat : Int), .slice kA ks.length kc]
      have HT1 := Lib.hid (HT.out.below hW1b)
      have HO1 := Lib.hid (HO.out.below hW1b)
      have HV1 := Lib.hid hv1
      clear hW1b hv1 hD hDD HT HO
      go_wp2_with fail
      generalize wr.alloc (.cells #[.int .i64 what, .int .i64 n, .int .u8 (bb.toNat : Int), .slice kA ks.length kc] 43) = W1 at *
      obtain ⟨xb, hxb⟩ : ∃ xb, xb = wr.heap.size := ⟨_, rfl⟩
      rw [← hxb] at HV1 ⊢
      clear hxb
      obtain ⟨v0, v1, v2, v3⟩ := cell4' HV1.out
      go_wp2_with fail
      refine (record_ok W1 n bb).mono ?_
      rintro e W3 ⟨g3, rl, hg3, rfl, hrn3, hcl3, hrm3, hb3⟩
      have HT3 := Lib.hid (HT1.out.below hb3)
      have HO3 := Lib.hid (HO1.out.below hb3)
      have HV3 := Lib.hid (celb HV1.out hb3)
      have HBY := Lib.hid (Segm.cel_by hcl3 (recB_len rl bb))
      have HRM := Lib.hid hrm3
      clear hg3 hrn3 hcl3 hrm3 hb3 v0 v1 v2 v3 HT1 HO1 HV1 c0 c1 c2 c3
      generalize recB rl bb = bs at *
      obtain ⟨v0, v1, v2, v3⟩ := cell4' HV3.out
      go_upto_block 2 with fail
      go_cut [7, 11, 16, 17, 19, 20, 21, 22, 23, 24] (fun s7 s11 s16 s17 s19 s20 s21 s22 s23 s24 wx => ∃ (e : Int) (M' : M) (o' : Option St), s16 = .int .i64 e ∧ s17 = .int .i64 e ∧ TwoT w wx d d2 M' ∧ Are w wx d d2 s7 s11 (k + 1) o')
      case first =>
        by_cases h0 : what = 0
        · subst h0
          cases o with
          | none =>
            obtain ⟨rfl, rfl⟩ := HO3.out
            clear HO3
            as_aux_lemma =>
              go_wp2_with fail
              refine (begin_nil W3 _).mono ?_
              rintro e W4 ⟨rfl, rfl⟩
              have HT9 := HT3
              clear HT3 HBY
              go_wp2_with fail
              go_meet
              exact ⟨_, _, none, rfl, rfl, HT9.out, rfl, rfl⟩
          | some s =>
            obtain ⟨q, t, rfl, rfl, hal⟩ := HO3.out
            clear HO3
            have HA3 := Lib.hid hal
            clear hal
            as_aux_lemma =>
              have con := begin_call W3 w.heap.size q d s m (some ⟨g3, 0, none⟩) rl rl bs HT3.out.dk HA3.out.ss HT3.out.low.size HA3.out.own.1 HBY.out (Nat.le_refl _) HRM.out HT3.out.ok HA3.out.ep
              have CON2 := Lib.hid (fun W h1 h2 h3 h4 => rbegin_call W w.heap.size t d2 s m (some ⟨g3, 0, none⟩) rl rl bs h1 h2 h3 HA3.out.own.2 h4 (Nat.le_refl _) HRM.out HT3.out.ok HA3.out.ep)
              have HX := Lib.hid (begin_fits bs HT3.out.ok HA3.out.fits)
              have HSO := Lib.hid (begin_sound (m := m) bs HA3.out.sound)
              have HRO := Lib.hid (Nat.le_trans (Nat.le_of_eq (room_beginT m s bs)) HT3.out.room)
              generalize beginT m s bs = x at *
              obtain ⟨ex, mx, sx⟩ := x
              replace con : Calls Tryz.prog 11 #[.pointer (some ⟨q, 0, none⟩), .slice (some ⟨g3, 0, none⟩) rl rl] W3 fun r w' => r = .returned (.int .i64 ex) ∧ Dk w' w.heap.size d mx ∧ Ss w' w.heap.size q d sx ∧ Chg w.heap.size Stb W3 w' := con
              have HCON := Lib.hid con
              clear con
              go_wp2_with fail
              refine HCON.out.mono ?_
              clear HCON
              rintro e W4 ⟨rfl, hd, hs, hc⟩
              have HD4 := Lib.hid hd
              have HS4 := Lib.hid hs
              have HC4 := Lib.hid hc
              have con := CON2.out W4 (Fk_stb HT3.out.fk hc) (Rt_stb HA3.out.rt hc) (Nat.le_trans HT3.out.low.size hc.size) (By_stb HBY.out hc)
              replace con : Calls Tryz.prog 12 #[.pointer (some ⟨t, 0, none⟩), .slice (some ⟨g3, 0, none⟩) rl rl] W4 fun r w' => r = .returned (.int .i64 ex) ∧ Fk w' w.heap.size d2 mx ∧ Rt w' w.heap.size t d2 sx ∧ Chg w.heap.size Utb W4 w' := con
              clear hd hs hc CON2
              go_wp2_with fail
              refine con.mono ?_
              clear con
              rintro e W5 ⟨rfl, hf5, hs5, hc5⟩
              have HT9 : Hid (TwoT w W5 d d2 mx) := Lib.hid ⟨Dk_utb HD4.out hc5, hf5, HX.out.1, HRO.out, HT3.out.low.trans ((HC4.out.below HT3.out.low.size).trans (hc5.below (Nat.le_trans HT3.out.low.size HC4.out.size)))⟩
              have HA9 : Hid (Al w W5 d d2 q t (k + 1) sx) := Lib.hid ⟨Ss_utb HS4.out hc5, hs5, HA3.out.own, HX.out.2, HSO.out⟩
              clear hf5 hs5 hc5 HD4 HS4 HC4 HA3 HT3 HBY HX HSO HRO
              go_wp2_with fail
              go_meet
              exact ⟨_, _, some _, rfl, rfl, HT9.out, _, _, rfl, rfl, HA9.out⟩
        · have t0 : (what == 0) = false := by simpa using h0
          clear h0
          by_cases h1 : what = 1
          · subst h1
            cases o with
            | none =>
              obtain ⟨rfl, rfl⟩ := HO3.out
              clear HO3
              as_aux_lemma =>
                go_wp2_with fail
                refine (append_nil W3 _).mono ?_
                rintro e W4 ⟨rfl, rfl⟩
                have HT9 := HT3
                clear HT3 HBY
                go_wp2_with fail
                go_meet
                exact ⟨_, _, none, rfl, rfl, HT9.out, rfl, rfl⟩
            | some s =>
              obtain ⟨q, t, rfl, rfl, hal⟩ := HO3.out
              clear HO3
              have HA3 := Lib.hid hal
              clear hal
              as_aux_lemma =>
                have con := append_call W3 w.heap.size q d s m (some ⟨g3, 0, none⟩) rl rl bs HT3.out.dk HA3.out.ss HT3.out.low.size HA3.out.own.1 HBY.out (Nat.le_refl _) HRM.out (HA3.out.size (by omega))
                have CON2 := Lib.hid (fun W h1 h2 h3 h4 => rappend_call W w.heap.size t d2 s m (some ⟨g3, 0, none⟩) rl rl bs h1 h2 h3 HA3.out.own.2 h4 (Nat.le_refl _) HRM.out HT3.out.ok HA3.out.sound (HA3.out.size (by omega)))
                have HX := Lib.hid (append_fits bs HT3.out.ok HA3.out.fits)
                have HSO := Lib.hid (append_sound (m := m) bs HA3.out.sound)
                have HRO := Lib.hid (Nat.le_trans (Nat.le_of_eq (room_appendT m s bs)) HT3.out.room)
                generalize appendT m s bs = x at *
                obtain ⟨ex, mx, sx⟩ := x
                replace con : Calls Tryz.prog 13 #[.pointer (some ⟨q, 0, none⟩), .slice (some ⟨g3, 0, none⟩) rl rl] W3 fun r w' => r = .returned (.int .i64 ex) ∧ Dk w' w.heap.size d mx ∧ Ss w' w.heap.size q d sx ∧ Chg w.heap.size Stb W3 w' := con
                have HCON := Lib.hid con
                clear con
                go_wp2_with fail
                refine HCON.out.mono ?_
                clear HCON
                rintro e W4 ⟨rfl, hd, hs, hc⟩
                have HD4 := Lib.hid hd
                have HS4 := Lib.hid hs
                have HC4 := Lib.hid hc
                have con := CON2.out W4 (Fk_stb HT3.out.fk hc) (Rt_stb HA3.out.rt hc) (Nat.le_trans HT3.out.low.size hc.size) (By_stb HBY.out hc)
                replace con : Calls Tryz.prog 14 #[.pointer (some ⟨t, 0, none⟩), .slice (some ⟨g3, 0, none⟩) rl rl] W4 fun r w' => r = .returned (.int .i64 ex) ∧ Fk w' w.heap.size d2 mx ∧ Rt w' w.heap.size t d2 sx ∧ Chg w.heap.size Utb W4 w' := con
                clear hd hs hc CON2
                go_wp2_with fail
                refine con.mono ?_
                clear con
                rintro e W5 ⟨rfl, hf5, hs5, hc5⟩
                have HT9 : Hid (TwoT w W5 d d2 mx) := Lib.hid ⟨Dk_utb HD4.out hc5, hf5, HX.out.1, HRO.out, HT3.out.low.trans ((HC4.out.below HT3.out.low.size).trans (hc5.below (Nat.le_trans HT3.out.low.size HC4.out.size)))⟩
                have HA9 : Hid (Al w W5 d d2 q t (k + 1) sx) := Lib.hid ⟨Ss_utb HS4.out hc5, hs5, HA3.out.own, HX.out.2, HSO.out⟩
                clear hf5 hs5 hc5 HD4 HS4 HC4 HA3 HT3 HBY HX HSO HRO
                go_wp2_with fail
                go_meet
                exact ⟨_, _, some _, rfl, rfl, HT9.out, _, _, rfl, rfl, HA9.out⟩
          · have t1 : (what == 1) = false := by simpa using h1
            clear h1
            by_cases h2 : what = 2
            · subst h2
              cases o with
              | none =>
                obtain ⟨rfl, rfl⟩ := HO3.out
                clear HO3
                as_aux_lemma =>
                  go_wp2_with fail
                  refine (sync_nil W3).mono ?_
                  rintro e W4 ⟨rfl, rfl⟩
                  have HT9 := HT3
                  clear HT3 HBY
                  go_wp2_with fail
                  go_meet
                  exact ⟨_, _, none, rfl, rfl, HT9.out, rfl, rfl⟩
              | some s =>
                obtain ⟨q, t, rfl, rfl, hal⟩ := HO3.out
                clear HO3
                have HA3 := Lib.hid hal
                clear hal
                as_aux_lemma =>
                  have con := sync_call W3 w.heap.size q d s m HT3.out.dk HA3.out.ss HT3.out.low.size HA3.out.own.1 HA3.out.file
                  have CON2 := Lib.hid (fun W h1 h2 h3 h4 => (fun (_ : By W (some ⟨g3, 0, none⟩) rl bs) => rsync_call W w.heap.size t d2 s m h1 h2 h3 HA3.out.own.2 HT3.out.ok HT3.out.inv HA3.out.file) h4)
                  have HX := Lib.hid (sync_fits HT3.out.ok HA3.out.fits)
                  have HSO := Lib.hid (sync_sound (m := m) HA3.out.sound)
                  have HRO := Lib.hid (Nat.le_trans (Nat.le_of_eq (room_syncT m s)) HT3.out.room)
                  generalize syncT m s = x at *
                  obtain ⟨ex, mx, sx⟩ := x
                  replace con : Calls Tryz.prog 15 #[.pointer (some ⟨q, 0, none⟩)] W3 fun r w' => r = .returned (.int .i64 ex) ∧ Dk w' w.heap.size d mx ∧ Ss w' w.heap.size q d sx ∧ Chg w.heap.size Stb W3 w' := con
                  have HCON := Lib.hid con
                  clear con
                  go_wp2_with fail
                  refine HCON.out.mono ?_
                  clear HCON
                  rintro e W4 ⟨rfl, hd, hs, hc⟩
                  have HD4 := Lib.hid hd
                  have HS4 := Lib.hid hs
                  have HC4 := Lib.hid hc
                  have con := CON2.out W4 (Fk_stb HT3.out.fk hc) (Rt_stb HA3.out.rt hc) (Nat.le_trans HT3.out.low.size hc.size) (By_stb HBY.out hc)
                  replace con : Calls Tryz.prog 16 #[.pointer (some ⟨t, 0, none⟩)] W4 fun r w' => r = .returned (.int .i64 ex) ∧ Fk w' w.heap.size d2 mx ∧ Rt w' w.heap.size t d2 sx ∧ Chg w.heap.size Utb W4 w' := con
                  clear hd hs hc CON2
                  go_wp2_with fail
                  refine con.mono ?_
                  clear con
                  rintro e W5 ⟨rfl, hf5, hs5, hc5⟩
                  have HT9 : Hid (TwoT w W5 d d2 mx) := Lib.hid ⟨Dk_utb HD4.out hc5, hf5, HX.out.1, HRO.out, HT3.out.low.trans ((HC4.out.below HT3.out.low.size).trans (hc5.below (Nat.le_trans HT3.out.low.size HC4.out.size)))⟩
                  have HA9 : Hid (Al w W5 d d2 q t (k + 1) sx) := Lib.hid ⟨Ss_utb HS4.out hc5, hs5, HA3.out.own, HX.out.2, HSO.out⟩
                  clear hf5 hs5 hc5 HD4 HS4 HC4 HA3 HT3 HBY HX HSO HRO
                  go_wp2_with fail
                  go_meet
                  exact ⟨_, _, some _, rfl, rfl, HT9.out, _, _, rfl, rfl, HA9.out⟩
            · have t2 : (what == 2) = false := by simpa using h2
              clear h2
              by_cases h3 : what = 3
              · subst h3
                as_aux_lemma =>
                  go_wp2_with fail
                  refine (Disk.fail_call W3 w.heap.size d m n hn.2 (.slice kA ks.length kc) ks HT3.out.dk (HKP.out W3 HT3.out.low) HT3.out.low.size HKL.out).mono ?_
                  rintro e W4 ⟨rfl, hd, hc⟩
                  have HD4 := Lib.hid hd
                  have HF4 := Lib.hid (Fk_stb HT3.out.fk (dob_st hc))
                  have HV4 := Lib.hid (deed_stb HV3.out (dob_st hc))
                  have HL4 := Lib.hid (HT3.out.low.trans (hc.below HT3.out.low.size))
                  have HO4 := Lib.hid (HO3.out.stb hc)
                  clear hd hc v0 v1 v2 v3
                  obtain ⟨v0, v1, v2, v3⟩ := cell4' HV4.out
                  go_wp2_with fail
                  refine (Disk.rfail_ok W4 w.heap.size d2 m n hn.2 (.slice kA ks.length kc) ks HF4.out (HKP.out W4 HL4.out)).mono ?_
                  rintro e W5 ⟨rfl, hf5, hc5⟩
                  have HT9 : Hid (TwoT w W5 d d2 (fail m n ks)) := Lib.hid ⟨Dk_utb HD4.out (rob_ut hc5), hf5, Disk.ok_fail HT3.out.ok n HKL.out, HT3.out.room, HL4.out.trans (hc5.below HL4.out.size)⟩
                  have HA9 := Lib.hid (HO4.out.utb hc5).more
                  clear hf5 hc5 HD4 HF4 HV4 HL4 HO4 HO3 HT3 HBY v0 v1 v2 v3
                  go_wp2_with fail
                  go_meet
                  exact ⟨_, _, o, rfl, rfl, HT9.out, HA9.out⟩
              · have t3 : (what == 3) = false := by simpa using h3
                clear h3
                by_cases h4 : what = 4
                · subst h4
                  as_aux_lemma =>
                    go_wp2_with fail
                    refine (Disk.crash_call W3 w.heap.size d m (.slice kA ks.length kc) ks HT3.out.dk (HKP.out W3 HT3.out.low) HT3.out.low.size HKL.out).mono ?_
                    rintro e W4 ⟨rfl, hd, hc⟩
                    have HD4 := Lib.hid hd
                    have HF4 := Lib.hid (Fk_stb HT3.out.fk (dob_st hc))
                    have HV4 := Lib.hid (deed_stb HV3.out (dob_st hc))
                    have HL4 := Lib.hid (HT3.out.low.trans (hc.below HT3.out.low.size))
                    clear hd hc v0 v1 v2 v3 HO3
                    obtain ⟨v0, v1, v2, v3⟩ := cell4' HV4.out
                    go_wp2_with fail
                    refine (Disk.rcrash_ok W4 w.heap.size d2 m (.slice kA ks.length kc) ks HF4.out HL4.out.size (HKP.out W4 HL4.out) HKL.out).mono ?_
                    rintro e W5 ⟨rfl, hf5, hc5⟩
                    have HF5 := Lib.hid hf5
                    have HD5 := Lib.hid (Dk_utb HD4.out (rob_ut hc5))
                    have HL5 := Lib.hid (HL4.out.trans (hc5.below HL4.out.size))
                    clear hf5 hc5 v0 v1 v2 v3 HD4 HF4 HV4 HL4
                    go_wp2_with fail
                    refine (Disk.up_call W5 w.heap.size d (crash m ks) HD5.out).mono ?_
                    rintro e W6 ⟨rfl, hd6, hc6⟩
                    have HD6 := Lib.hid hd6
                    have HF6 := Lib.hid (Fk_stb HF5.out (dob_st hc6))
                    have HL6 := Lib.hid (HL5.out.trans (hc6.below HL5.out.size))
                    clear hd6 hc6 HD5 HF5 HL5
                    go_wp2_with fail
                    refine (Disk.rup_ok W6 w.heap.size d2 (crash m ks) HF6.out).mono ?_
                    rintro e W7 ⟨rfl, hf7, hc7⟩
                    have HT7 : Hid (TwoT w W7 d d2 (up (crash m ks))) := Lib.hid ⟨Dk_utb HD6.out (rob_ut hc7), hf7, Disk.ok_up (Disk.ok_crash HT3.out.ok ks), (by show (crash m ks).room ≤ 60; rw [room_crash]; exact HT3.out.room), HL6.out.trans (hc7.below HL6.out.size)⟩
                    clear hf7 hc7 HD6 HF6 HL6 HT3 HBY
                    generalize up (crash m ks) = m3 at *
                    have con := open_call W7 w.heap.size d m3 HT7.out.dk HT7.out.few
                    have HCON2 := Lib.hid (fun W h1 => ropen_call W w.heap.size d2 m3 h1 HT7.out.few)
                    have hRX := Nat.le_trans (open_few m3 HT7.out.few) (show 200 ≤ 4096 by decide)
                    generalize openT m3 = x at *
                    obtain ⟨ex, epx, rx⟩ := x
                    dsimp only at hRX
                    have HCON := Lib.hid con
                    clear con
                    go_wp2_with fail
                    refine HCON.out.mono ?_
                    clear HCON
                    rintro e W8 hos
                    by_cases hex : ex = 0
                    · subst hex
                      obtain ⟨q1, A8, c8, rs8, hq8, rfl, hrs8, hown8, hs8⟩ := hos.2 rfl
                      dsimp only at hrs8
                      have HT8 := Lib.hid (HT7.out.below hown8.low)
                      have con := HCON2.out W8 HT8.out.fk
                      have HOW8 := Lib.hid hown8
                      have HRS8 := Lib.hid hrs8
                      have HS8 := Lib.hid hs8
                      have HQ8 := Lib.hid (Nat.le_trans HT7.out.low.size hq8)
                      clear hos hown8 hs8 hq8 HCON2 hrs8
                      go_wp2_with fail
                      refine con.mono ?_
                      clear con
                      rintro e W9 hos
                      obtain ⟨t1, A9, c9, rs9, ht9, rfl, hrs9, hown9, hs9⟩ := hos.2 rfl
                      dsimp only at hrs9
                      have HT9' := Lib.hid (HT8.out.below hown9.low)
                      have HA9' : Hid (Al w W9 d d2 q1 t1 (k + 1) ⟨epx, none, false⟩) := Lib.hid ⟨HS8.out.below hown9.low, hs9, ⟨HQ8.out, Nat.le_trans HT8.out.low.size ht9⟩, fit_none _ _, fun _ _ e => by cases e⟩
                      have hl8 : rs8.length = rx.length := by rw [← HRS8.out, List.length_map]
                      have hl9 : rs9.length = rx.length := by rw [← hrs9, List.length_map]
                      have hrd8 : Rd W9 W9.heap.size A8 rs8.length rx := by
                        rw [← HRS8.out]
                        exact Frag.Rd.of_own (Frag.own_below HOW8.out.own hown9.low) fun x hx => (HOW8.out.by_ x hx).below hown9.low
                      have hrd9 : Rd W9 W9.heap.size A9 rs9.length rx := by
                        rw [← hrs9]
                        exact Frag.Rd.of_own hown9.own hown9.by_
                      have hrx : rx.length ≤ 4096 := hRX
                      rw [hl8] at hrd8 ⊢
                      rw [hl9] at hrd9 ⊢
                      have con := Frag.refSame A8 A9 rx.length c8 c9 rx W9.heap.size W9 hrd8 hrd9 (Nat.le_refl _) hrx
                      have HCON := Lib.hid con
                      clear hos hown9 hs9 ht9 hrs9 hl8 hl9 hrd8 hrd9 con HS8 HQ8 HT8 HOW8 HRS8 HT7 hrx
                      go_wp2_with fail
                      refine HCON.out.mono ?_
                      clear HCON
                      rintro e W10 ⟨rfl, hb10⟩
                      have HT9 := Lib.hid (HT9'.out.below hb10)
                      have HA9 := Lib.hid (HA9'.out.below hb10)
                      clear hb10 HT9' HA9'
                      go_wp2_with fail
                      go_meet
                      exact ⟨_, _, some _, rfl, rfl, HT9.out, _, _, rfl, rfl, HA9.out⟩
                    · obtain ⟨rfl, hb8⟩ := hos.1 hex
                      have HT8 := Lib.hid (HT7.out.below hb8)
                      have con := HCON2.out W8 HT8.out.fk
                      clear hos hb8 HCON2 HT7
                      go_wp2_with fail
                      refine con.mono ?_
                      clear con
                      rintro e W9 hos
                      obtain ⟨rfl, hb9⟩ := hos.1 hex
                      have HT9' := Lib.hid (HT8.out.below hb9)
                      clear hos hb9 HT8
                      have con := Frag.refSame none none 0 0 0 [] W9.heap.size W9 ⟨rfl, fun i b hi => by simp at hi⟩ ⟨rfl, fun i b hi => by simp at hi⟩ (Nat.le_refl _) (Nat.zero_le _)
                      have HCON := Lib.hid con
                      clear con
                      go_wp2_with fail
                      refine HCON.out.mono ?_
                      clear HCON
                      rintro e W10 ⟨rfl, hb10⟩
                      have HT9 := Lib.hid (HT9'.out.below hb10)
                      clear hb10 HT9'
                      go_wp2_with fail
                      go_meet
                      exact ⟨_, _, none, rfl, rfl, HT9.out, rfl, rfl⟩
                · have t4 : (what == 4) = false := by simpa using h4
                  clear h4
                  by_cases h5 : what = 5
                  · subst h5
                    as_aux_lemma =>
                      go_wp2_with fail
                      refine wp_region_N [] (Chg w.heap.size Dob W3) (by kernel_rfl) ?_
                      have hH : Chg w.heap.size Dob W3 W3.drew := (Chg.refl _ _ _).drew
                      have hcl : ∀ V, Chg w.heap.size Dob W3 V → V.cell? ⟨xb, 1, none⟩ = some (.int .i64 n) ∧ V.cell? ⟨xb, 2, none⟩ = some (.int .u8 (bb.toNat : Int)) := fun V hV => ⟨(deed_stb HV3.out (dob_st hV)).cell 1, (deed_stb HV3.out (dob_st hV)).cell 2⟩
                      refine wpAnyN_take (i := 0) (v := .pointer (some ⟨d, 0, none⟩)) [] (by kernel_rfl) rfl (by kernel_rfl) (by kernel_rfl) (by kernel_rfl) (fun _ _ _ h => h) (Or.inl ⟨by rfl, ?_⟩) hH ?_
                      · intro V hV; go_simp
                      try simp only [Act.put, List.setIfInBounds_toArray, List.set_cons_zero, List.set_cons_succ, List.getElem_toArray, List.getElem_cons_succ, List.getElem_cons_zero]
                      refine wpAnyN_take (i := 1) (v := .pointer (some ⟨xb, 1, none⟩)) [] (by kernel_rfl) rfl (by kernel_rfl) (by kernel_rfl) (by kernel_rfl) (fun _ _ _ h => h) (Or.inl ⟨by rfl, ?_⟩) hH ?_
                      · intro V hV; go_simp
                      try simp only [Act.put, List.setIfInBounds_toArray, List.set_cons_zero, List.set_cons_succ, List.getElem_toArray, List.getElem_cons_succ, List.getElem_cons_zero]
                      refine wpAnyN_take (i := 2) (v := .int .i64 n) [] (by kernel_rfl) rfl (by kernel_rfl) (by kernel_rfl) (by kernel_rfl) (fun _ _ _ h => h) (Or.inl ⟨by rfl, ?_⟩) hH ?_
                      · intro V hV; obtain ⟨k1, k2⟩ := hcl V hV; go_simp
                      try simp only [Act.put, List.setIfInBounds_toArray, List.set_cons_zero, List.set_cons_succ, List.getElem_toArray, List.getElem_cons_succ, List.getElem_cons_zero]
                      refine wpAnyN_take (i := 3) (v := .pointer (some ⟨xb, 2, none⟩)) [] (by kernel_rfl) rfl (by kernel_rfl) (by kernel_rfl) (by kernel_rfl) (fun _ _ _ h => h) (Or.inl ⟨by rfl, ?_⟩) hH ?_
                      · intro V hV; go_simp
                      try simp only [Act.put, List.setIfInBounds_toArray, List.set_cons_zero, List.set_cons_succ, List.getElem_toArray, List.getElem_cons_succ, List.getElem_cons_zero]
                      refine wpAnyN_take (i := 4) (v := .int .u8 (bb.toNat : Int)) [] (by kernel_rfl) rfl (by kernel_rfl) (by kernel_rfl) (by kernel_rfl) (fun _ _ _ h => h) (Or.inl ⟨by rfl, ?_⟩) hH ?_
                      · intro V hV; obtain ⟨k1, k2⟩ := hcl V hV; go_simp
                      try simp only [Act.put, List.setIfInBounds_toArray, List.set_cons_zero, List.set_cons_succ, List.getElem_toArray, List.getElem_cons_succ, List.getElem_cons_zero]
                      refine wpAnyN_one (i := 5) (by kernel_rfl) rfl (fun K hK => ?_)
                      go_simp
                      refine (record_ok W3.drew 512 bb).mono ?_
                      rintro e W4 ⟨g4, k4, hg4, rfl, hrn4, hcl4, hrm4, hb4⟩
                      obtain rfl := recN512 hrn4
                      have hH4 : Chg w.heap.size Dob W3 W4 := hH.trans (Chg.of_below hb4)
                      have con := Disk.append_call W4 w.heap.size d m n (some ⟨g4, 0, none⟩) 512 512 (recB 512 bb) ((HT3.out.dk.below (Below.refl _ _).drew).below hb4) (Nat.le_trans HT3.out.low.size hH4.size) hn.2 (rec_bn hcl4) (fun ad e => by cases e; exact ⟨_, _, rfl⟩) (by unfold maxLen; omega)
                      obtain ⟨e5, he5⟩ : ∃ e, (append m n (recB 512 bb)).1 = e := ⟨_, rfl⟩
                      obtain ⟨m5, hm5⟩ : ∃ x, (append m n (recB 512 bb)).2 = x := ⟨_, rfl⟩
                      have HX5 := Lib.hid (show append m n (recB 512 bb) = (e5, m5) from by rw [← he5, ← hm5])
                      rw [HX5.out] at con
                      replace con : Calls Tryz.prog 24 #[.pointer (some ⟨d, 0, none⟩), .int .i64 n, .slice (some ⟨g4, 0, none⟩) 512 512] W4 fun r w' => r = .returned (.int .i64 e5) ∧ Dk w' w.heap.size d m5 ∧ Chg w.heap.size Dob W4 w' := con
                      have HCON := Lib.hid con
                      have HK5 := Lib.hid (show Ok m5 from by rw [← hm5]; exact Disk.ok_append HT3.out.ok _ _)
                      have HR5 := Lib.hid (show m5.room ≤ 60 from by rw [← hm5, room_append]; exact HT3.out.room)
                      clear hcl4 hrm4 hb4 hrn4 con he5 hm5 hg4
                      go_wp2_with fail
                      refine hK.out _ _ (.inr hH4) ?_
                      clear hK K hH
                      try simp only [Act.put, List.setIfInBounds_toArray, List.set_cons_zero, List.set_cons_succ, List.getElem_toArray, List.getElem_cons_succ, List.getElem_cons_zero]
                      refine wpAnyN_one (i := 6) (by kernel_rfl) rfl (fun K hK => ?_)
                      go_simp
                      refine HCON.out.mono ?_
                      clear HCON
                      rintro e W5 ⟨rfl, hd5, hc5⟩
                      have hH5 : Chg w.heap.size Dob W3 W5 := hH4.trans hc5
                      have HD5 := Lib.hid hd5
                      clear hd5 hc5 hH4
                      go_wp2_with fail
                      refine hK.out _ _ (.inr hH5) ?_
                      clear hK K
                      try simp only [Act.put, List.setIfInBounds_toArray, List.set_cons_zero, List.set_cons_succ, List.getElem_toArray, List.getElem_cons_succ, List.getElem_cons_zero]
                      refine wpAnyN_one (i := 7) (by kernel_rfl) rfl (fun K hK => ?_)
                      go_simp
                      refine hK.out _ _ (.inr hH5) ?_
                      clear hK K hcl
                      try simp only [Act.put, List.setIfInBounds_toArray, List.set_cons_zero, List.set_cons_succ, List.getElem_toArray, List.getElem_cons_succ, List.getElem_cons_zero]
                      refine wpAnyN_done (by kernel_rfl) ?_ _
                      try simp only [Exit.then]
                      have HF5 := Lib.hid (Fk_stb HT3.out.fk (dob_st hH5))
                      have HV5 := Lib.hid (deed_stb HV3.out (dob_st hH5))
                      have HO5 := Lib.hid (HO3.out.stb hH5)
                      have HL5 := Lib.hid (HT3.out.low.trans (hH5.below HT3.out.low.size))
                      clear hH5 v0 v1 v2 v3 HV3 HO3 HBY
                      go_wp2_with fail
                      refine wp_region_N [] (Chg w.heap.size Rob W5) (by kernel_rfl) ?_
                      have hH : Chg w.heap.size Rob W5 W5.drew := (Chg.refl _ _ _).drew
                      have hcl : ∀ V, Chg w.heap.size Rob W5 V → V.cell? ⟨xb, 1, none⟩ = some (.int .i64 n) ∧ V.cell? ⟨xb, 2, none⟩ = some (.int .u8 (bb.toNat : Int)) := fun V hV => ⟨(deed_utb HV5.out (rob_ut hV)).cell 1, (deed_utb HV5.out (rob_ut hV)).cell 2⟩
                      refine wpAnyN_take (i := 0) (v := .pointer (some ⟨d2, 0, none⟩)) [] (by kernel_rfl) rfl (by kernel_rfl) (by kernel_rfl) (by kernel_rfl) (fun _ _ _ h => h) (Or.inl ⟨by rfl, ?_⟩) hH ?_
                      · intro V hV; go_simp
                      try simp only [Act.put, List.setIfInBounds_toArray, List.set_cons_zero, List.set_cons_succ, List.getElem_toArray, List.getElem_cons_succ, List.getElem_cons_zero]
                      refine wpAnyN_take (i := 1) (v := .pointer (some ⟨xb, 1, none⟩)) [] (by kernel_rfl) rfl (by kernel_rfl) (by kernel_rfl) (by kernel_rfl) (fun _ _ _ h => h) (Or.inl ⟨by rfl, ?_⟩) hH ?_
                      · intro V hV; go_simp
                      try simp only [Act.put, List.setIfInBounds_toArray, List.set_cons_zero, List.set_cons_succ, List.getElem_toArray, List.getElem_cons_succ, List.getElem_cons_zero]
                      refine wpAnyN_take (i := 2) (v := .int .i64 n) [] (by kernel_rfl) rfl (by kernel_rfl) (by kernel_rfl) (by kernel_rfl) (fun _ _ _ h => h) (Or.inl ⟨by rfl, ?_⟩) hH ?_
                      · intro V hV; obtain ⟨k1, k2⟩ := hcl V hV; go_simp
                      try simp only [Act.put, List.setIfInBounds_toArray, List.set_cons_zero, List.set_cons_succ, List.getElem_toArray, List.getElem_cons_succ, List.getElem_cons_zero]
                      refine wpAnyN_take (i := 3) (v := .pointer (some ⟨xb, 2, none⟩)) [] (by kernel_rfl) rfl (by kernel_rfl) (by kernel_rfl) (by kernel_rfl) (fun _ _ _ h => h) (Or.inl ⟨by rfl, ?_⟩) hH ?_
                      · intro V hV; go_simp
                      try simp only [Act.put, List.setIfInBounds_toArray, List.set_cons_zero, List.set_cons_succ, List.getElem_toArray, List.getElem_cons_succ, List.getElem_cons_zero]
                      refine wpAnyN_take (i := 4) (v := .int .u8 (bb.toNat : Int)) [] (by kernel_rfl) rfl (by kernel_rfl) (by kernel_rfl) (by kernel_rfl) (fun _ _ _ h => h) (Or.inl ⟨by rfl, ?_⟩) hH ?_
                      · intro V hV; obtain ⟨k1, k2⟩ := hcl V hV; go_simp
                      try simp only [Act.put, List.setIfInBounds_toArray, List.set_cons_zero, List.set_cons_succ, List.getElem_toArray, List.getElem_cons_succ, List.getElem_cons_zero]
                      refine wpAnyN_one (i := 5) (by kernel_rfl) rfl (fun K hK => ?_)
                      go_simp
                      refine (record_ok W5.drew 512 bb).mono ?_
                      rintro e W6 ⟨g6, k6, hg6, rfl, hrn6, hcl6, hrm6, hb6⟩
                      obtain rfl := recN512 hrn6
                      have hH6 : Chg w.heap.size Rob W5 W6 := hH.trans (Chg.of_below hb6)
                      have qs := Disk.toStr (Segm.cel_by hcl6 (recB_len 512 bb)).rd 512
                      have con := Disk.rappend_ok W6 w.heap.size d2 m n (recB 512 bb) ((HF5.out.below (Below.refl _ _).drew).below hb6) (Nat.le_trans HL5.out.size hH6.size) hn.2 (by rw [recB_len]; unfold maxLen; omega) HT3.out.ok
                      rw [HX5.out] at con
                      replace con : Calls Tryz.prog 25 #[.pointer (some ⟨d2, 0, none⟩), .int .i64 n, .string (str (recB 512 bb))] W6 fun r w' => r = .returned (.int .i64 e5) ∧ Fk w' w.heap.size d2 m5 ∧ Chg w.heap.size Rob W6 w' := con
                      have HCON := Lib.hid con
                      clear hcl6 hrm6 hb6 hrn6 con hg6
                      go_wp2_with fail
                      refine hK.out _ _ (.inr hH6) ?_
                      clear hK K hH
                      try simp only [Act.put, List.setIfInBounds_toArray, List.set_cons_zero, List.set_cons_succ, List.getElem_toArray, List.getElem_cons_succ, List.getElem_cons_zero]
                      refine wpAnyN_one (i := 6) (by kernel_rfl) rfl (fun K hK => ?_)
                      go_simp
                      refine hK.out _ _ (.inr hH6) ?_
                      clear hK K qs
                      try simp only [Act.put, List.setIfInBounds_toArray, List.set_cons_zero, List.set_cons_succ, List.getElem_toArray, List.getElem_cons_succ, List.getElem_cons_zero]
                      refine wpAnyN_one (i := 7) (by kernel_rfl) rfl (fun K hK => ?_)
                      go_simp
                      refine HCON.out.mono ?_
                      clear HCON
                      rintro e W7 ⟨rfl, hf7, hc7⟩
                      have hH7 : Chg w.heap.size Rob W5 W7 := hH6.trans hc7
                      have HF7 := Lib.hid hf7
                      clear hf7 hc7 hH6
                      go_wp2_with fail
                      refine hK.out _ _ (.inr hH7) ?_
                      clear hK K
                      try simp only [Act.put, List.setIfInBounds_toArray, List.set_cons_zero, List.set_cons_succ, List.getElem_toArray, List.getElem_cons_succ, List.getElem_cons_zero]
                      refine wpAnyN_one (i := 8) (by kernel_rfl) rfl (fun K hK => ?_)
                      go_simp
                      refine hK.out _ _ (.inr hH7) ?_
                      clear hK K hcl
                      try simp only [Act.put, List.setIfInBounds_toArray, List.set_cons_zero, List.set_cons_succ, List.getElem_toArray, List.getElem_cons_succ, List.getElem_cons_zero]
                      refine wpAnyN_done (by kernel_rfl) ?_ _
                      try simp only [Exit.then]
                      have HT9 : Hid (TwoT w W7 d d2 m5) := Lib.hid ⟨Dk_utb HD5.out (rob_ut hH7), HF7.out, HK5.out, HR5.out, HL5.out.trans (hH7.below HL5.out.size)⟩
                      have HA9 := Lib.hid (HO5.out.utb hH7).more
                      clear hH7 HD5 HF7 HF5 HV5 HO5 HL5 HT3 HX5 HK5
                      go_wp2_with fail
                      go_meet
                      exact ⟨_, _, o, rfl, rfl, HT9.out, HA9.out⟩
                  · have t5 : (what == 5) = false := by simpa using h5
                    clear h5
                    as_aux_lemma =>
                      have HT9 := HT3
                      have HA9 := Lib.hid HO3.out.more
                      clear HT3 HO3 HBY
                      go_wp2_with fail
                      go_meet
                      exact ⟨_, _, o, rfl, rfl, HT9.out, HA9.out⟩
      case rest =>
        obtain ⟨e, M', o', rfl, rfl, hT9, hA9⟩ := hcut
        have HT9 := Lib.hid hT9
        clear hT9 HT3 HO3 HV3 HBY v0 v1 v2 v3
        cases o' with
        | none =>
          obtain ⟨rfl, rfl⟩ := hA9
          go_wp2_with fail
          refine (same7_ok (wc) w.heap.size d d2 (M') HT9.out.dk HT9.out.fk).mono ?_
          rintro e W11 ⟨rfl, hb11⟩
          have HT11 := Lib.hid (HT9.out.below hb11)
          clear hb11 HT9
          go_wp2_with fail
          go_roundw
          case rel => exact ⟨k + 1, M', none, by omega, by go_num, HT11.out, rfl, rfl⟩
          case measure => simp [Go.RowKit.intOf]; omega
        | some s =>
          obtain ⟨q1, t1, rfl, rfl, hal⟩ := hA9
          have HA9 := Lib.hid hal
          clear hal
          go_wp2_with fail
          refine (same7_ok (wc) w.heap.size d d2 (M') HT9.out.dk HT9.out.fk).mono ?_
          rintro e W11 ⟨rfl, hb11⟩
          have HT11 := Lib.hid (HT9.out.below hb11)
          have HA11 := Lib.hid (HA9.out.below hb11)
          clear hb11 HT9 HA9
          have HSN := Lib.hid (fun n => HA11.out.ss.below (below_drewN W11 n))
          have HRN := Lib.hid (fun n => HA11.out.rt.below (below_drewN W11 n))
          obtain ⟨v, hrc, -⟩ := HA11.out.rt
          have k1 : W11.cell? ⟨t1, 1, none⟩ = some (v32 (s).ep) := hrc.cell 1
          clear hrc
          go_wp2_with fail
          go_quiet (first | (go_at_call 27; exact quiet7 (size_call _ w.heap.size q1 d _ (HSN.out _))) | (go_at_call 28; exact quiet7 (rsize_call _ w.heap.size t1 d2 _ (HRN.out _))) | (go_at_call 29; exact quiet7 (epoch_call _ w.heap.size q1 d _ (HSN.out _))))
          go_wp2_with fail
          go_roundw
          case rel => exact ⟨k + 1, M', some (s), by omega, by go_num, HT11.out.below (below_drewN _ _), q1, t1, rfl, rfl, HA11.out.below (below_drewN _ _)⟩
          case measure => simp [Go.RowKit.intOf]; omega
    · obtain rfl : k = l := by omega
      go_wp2_with fail
      refine (knows _).mono ?_
      rintro e w9 ⟨rfl, hb9⟩
      go_wp2_with fail
      go_ret
      exact ⟨rfl, HT.out.low.trans (hb9.mono HT.out.low.size)⟩
end Go.Proofs.YtdaknfepcbooeaaGreat.Sto
