/-
Texts: ChkOpen ChkTarget ChkVars RegRef
-/
import Derived.Test.YteohlpmojfjjdaaGreatC0
import Derived.Test.YteohlpmojfjjdaaGreatC1
import Derived.Test.YteohlpmojfjjdaaGreatC2
import Derived.Test.YteohlpmojfjjdaaGreatC3
import Derived.Test.YteohlpmojfjjdaaGreatC4
import Derived.Test.YteohlpmojfjjdaaGreatC7
import Derived.Test.YteohlpmojfjjdaaGreatC8
set_option linter.unusedVariables false
set_option linter.unusedSimpArgs false
set_option maxRecDepth 100000
set_option maxHeartbeats 4000000
section
namespace Go.Proofs.YteohlpmojfjjdaaGreat.Chk
open Go.RowKit
open Lex (Tx Cr cr_ry)
theorem u8_of {x : Int} (h : (Lit.int .u8 x).wf = true) : ∃ b : BitVec 8, x = (b.toNat : Int) := by
 simp [Lit.wf, IntKind.min, IntKind.max, IntKind.bits, IntKind.signed] at h
 refine ⟨BitVec.ofNat 8 x.toNat, ?_⟩
 rw [BitVec.toNat_ofNat, Nat.mod_eq_of_lt (by omega)]
 omega
theorem i64_of {x : Int} (h : (Lit.int .i64 x).wf = true) : -9223372036854775808 ≤ x ∧ x < 9223372036854775808 := by
 simp [Lit.wf, IntKind.min, IntKind.max, IntKind.bits, IntKind.signed] at h
 omega
theorem pick {α : Type} (P : Nat → α → Prop) : ∀ n, (∀ i, i < n → ∃ x, P i x) → ∃ l : List α, l.length = n ∧ ∀ i x, l[i]? = some x → P i x
 | 0, _ => ⟨[], rfl, by simp⟩
 | n + 1, h => by
  obtain ⟨l, hl, hp⟩ := pick P n (fun i hi => h i (by omega))
  obtain ⟨x, hx⟩ := h n (by omega)
  refine ⟨l ++ [x], by simp [hl], fun i y hy => ?_⟩
  rcases Nat.lt_or_ge i l.length with hi | hi
  ·rw [List.getElem?_append_left hi] at hy
   exact hp i y hy
  ·have hi2 : i = n := by have := (List.getElem?_eq_some_iff.1 hy).1; simp at this; omega
   subst hi2
   rw [List.getElem?_append_right hi, show i - l.length = 0 by omega] at hy
   simp at hy
   subst hy
   exact hx
theorem flat_len {α : Type} (f : α → List Value) (m : Nat) (hf : ∀ x, (f x).length = m) : ∀ l : List α, (l.flatMap f).length = l.length * m
 | [] => by simp
 | x :: l => by rw [List.flatMap_cons, List.length_append, hf, flat_len f m hf l, List.length_cons, Nat.succ_mul, Nat.add_comm]
theorem cr_of {α : Type} (f : α → List Value) (m : Nat) (hm : 0 < m) (hf : ∀ x, (f x).length = m) {w : World} {ad : Addr} {l : List α}
  (h : ∀ i x k, l[i]? = some x → k < m → ∀ u, (f x)[k]? = some u → w.cell? (ad.add (i * m + k)) = some u) : Cr w (some ad) (l.flatMap f) := fun _ => ⟨ad, rfl, fun j u hj => by
 have hjl := (List.getElem?_eq_some_iff.1 hj).1
 rw [flat_len f m hf] at hjl
 have hq : j / m < l.length := Nat.div_lt_of_lt_mul (by rw [Nat.mul_comm]; exact hjl)
 have hx : l[j / m]? = some l[j / m] := List.getElem?_eq_getElem hq
 have hk := Nat.mod_lt j hm
 have e := flat_at f m hf l (j / m) (j % m) _ hx hk
 have d : j / m * m + j % m = j := by rw [Nat.mul_comm]; exact Nat.div_add_mod j m
 rw [d] at e
 have q := h _ _ _ hx hk u (e ▸ hj)
 rwa [d] at q⟩
theorem str_of (s : ByteArray) : ∃ bs : List (BitVec 8), s = str bs ∧ bs.length = s.size := by
 refine ⟨s.data.toList.map UInt8.toBitVec, ?_, by rw [List.length_map]; rfl⟩
 unfold str
 rw [List.map_map]
 obtain ⟨d⟩ := s
 congr 1
 apply Array.ext'
 simp [Function.comp_def]
theorem bytes_of_isv {w : World} {A : Option Addr} {l c : Nat} (h : IsV w (.slice (.int .u8)) (.slice A l c)) : ∃ bs : List (BitVec 8), bs.length = l ∧ l ≤ c ∧ l ≤ maxLen ∧ Bs w w.heap.size A l bs := by
 cases h with
 | nil => exact ⟨[], rfl, Nat.le_refl _, Nat.zero_le _, Bs.nil_⟩
 | slice U hl hc hcell hU =>
  rename_i x
  obtain ⟨bs, hbl, hp⟩ := pick (fun i (b : BitVec 8) => U i = v8 b) l (fun i hi => by
   have u0 := hU i hi
   generalize U i = a0 at *
   cases u0 with | int h0 =>
   obtain ⟨b, rfl⟩ := u8_of h0
   exact ⟨b, rfl⟩)
  refine ⟨bs, hbl, hl, by omega, hbl, fun hn => ⟨x, rfl, ?_, fun j hj => ?_⟩⟩
  ·have := cell_lt (hcell 0 hn)
   rwa [add_block] at this
  ·have hj2 : j < bs.length := by omega
   rw [hcell j hj, hp j _ (List.getElem?_eq_getElem hj2), List.getD_eq_getElem?_getD, List.getElem?_eq_getElem hj2]
   rfl
def FitA (a : GArm) : Prop := a.pat.length ≤ maxLen ∧ a.as_.length ≤ maxLen ∧ a.go.length ≤ maxLen ∧ -9223372036854775808 ≤ a.at_ ∧ a.at_ < 9223372036854775808
def FitS (s : GStep) : Prop := s.name.length ≤ maxLen ∧ s.els.length ≤ maxLen ∧ s.send.length ≤ maxLen ∧ s.arms.length ≤ maxLen ∧ (-9223372036854775808 ≤ s.at_ ∧ s.at_ < 9223372036854775808) ∧ (-9223372036854775808 ≤ s.tag ∧ s.tag < 9223372036854775808) ∧
 (-9223372036854775808 ≤ s.time ∧ s.time < 9223372036854775808) ∧ (-9223372036854775808 ≤ s.try_ ∧ s.try_ < 9223372036854775808) ∧ ∀ a ∈ s.arms, FitA a
theorem garms_of_isv {w : World} {A : Option Addr} {l c : Nat} (h : IsV w (.recs [.int .i64, .slice (.int .u8), .string, .string]) (.slice A l c)) :
  ∃ us : List Ga, us.length = l ∧ l ≤ maxLen ∧ Cr w A (gaflat us) ∧ ∀ u ∈ us, Tx w w.heap.size u.A u.g.pat ∧ u.g.pat.length ≤ u.c ∧ FitA u.g := by
 cases h with
 | rnil => exact ⟨[], rfl, by unfold maxLen; omega, fun h => absurd rfl h, by simp⟩
 | recs U hl hc hcell hU =>
  rename_i x
  obtain ⟨us, hsl, hp⟩ := pick (fun i (s : Ga) => (U i 0 = .int .i64 s.g.at_ ∧ U i 1 = .slice s.A s.g.pat.length s.c ∧ U i 2 = .string (str s.g.as_) ∧ U i 3 = .string (str s.g.go)) ∧ Tx w w.heap.size s.A s.g.pat ∧ s.g.pat.length ≤ s.c ∧ FitA s.g) l (fun i hi => by
   have u0 := hU i 0 _ hi rfl
   have u1 := hU i 1 _ hi rfl
   have u2 := hU i 2 _ hi rfl
   have u3 := hU i 3 _ hi rfl
   generalize U i 0 = a0 at *
   generalize U i 1 = a1 at *
   generalize U i 2 = a2 at *
   generalize U i 3 = a3 at *
   cases u0 with | int h0 =>
   obtain ⟨kA, kl, kc, rfl⟩ : ∃ A l c, a1 = .slice A l c := by cases u1 <;> exact ⟨_, _, _, rfl⟩
   cases u2 with | string h2 =>
   cases u3 with | string h3 =>
   rename_i s2 s3
   obtain ⟨pat, rfl, hpc, hpm, hbs⟩ := bytes_of_isv u1
   obtain ⟨b2, rfl, e2⟩ := str_of s2
   obtain ⟨b3, rfl, e3⟩ := str_of s3
   exact ⟨⟨⟨_, pat, b2, b3⟩, kA, kc⟩, ⟨rfl, rfl, rfl, rfl⟩, .inl hbs, hpc, hpm, by show b2.length ≤ _; omega, by show b3.length ≤ _; omega, i64_of h0⟩)
  refine ⟨us, hsl, by omega, cr_of Ga.cells 4 (by decide) (fun _ => rfl) fun i s k hi hk u hu => ?_, fun u hu => ?_⟩
  ·have hil : i < l := by have := (List.getElem?_eq_some_iff.1 hi).1; omega
   obtain ⟨⟨e0, e1, e2, e3⟩, _⟩ := hp i s hi
   have c0 := hcell i 0 hil (by decide)
   have c1 := hcell i 1 hil (by decide)
   have c2 := hcell i 2 hil (by decide)
   have c3 := hcell i 3 hil (by decide)
   rw [e0] at c0
   rw [e1] at c1
   rw [e2] at c2
   rw [e3] at c3
   match k, hk with
   | 0, _ => cases hu; exact c0
   | 1, _ => cases hu; exact c1
   | 2, _ => cases hu; exact c2
   | 3, _ => cases hu; exact c3
  ·obtain ⟨i, hi⟩ := List.mem_iff_getElem?.1 hu
   exact (hp i u hi).2
theorem steps_of_isv {w : World} {A : Option Addr} {l c : Nat} (h : IsV w (.recs [.int .i64, .string, .int .i64, .bool, .slice (.int .u8), .recs [.int .i64, .slice (.int .u8), .string, .string], .int .i64, .int .i64, .string]) (.slice A l c)) :
  ∃ vs : List Gs, vs.length = l ∧ l ≤ maxLen ∧ Gbk w w.heap.size A vs ∧ ∀ v ∈ vs, v.g.send.length ≤ v.c4 ∧ FitS v.g := by
 cases h with
 | rnil => exact ⟨[], rfl, by unfold maxLen; omega, ⟨fun h => absurd rfl h, by simp, by simp, by simp⟩, by simp⟩
 | recs U hl hc hcell hU =>
  rename_i x
  obtain ⟨vs, hsl, hp⟩ := pick (fun i (v : Gs) => (∀ k u, v.cells[k]? = some u → U i k = u) ∧ Tx w w.heap.size v.A4 v.g.send ∧ (Cr w v.A5 (gaflat v.avs) ∧ v.avs.map (·.g) = v.g.arms) ∧ (∀ u ∈ v.avs, Tx w w.heap.size u.A u.g.pat) ∧ v.g.send.length ≤ v.c4 ∧ FitS v.g) l (fun i hi => by
   have u0 := hU i 0 _ hi rfl
   have u1 := hU i 1 _ hi rfl
   have u2 := hU i 2 _ hi rfl
   have u3 := hU i 3 _ hi rfl
   have u4 := hU i 4 _ hi rfl
   have u5 := hU i 5 _ hi rfl
   have u6 := hU i 6 _ hi rfl
   have u7 := hU i 7 _ hi rfl
   have u8 := hU i 8 _ hi rfl
   obtain ⟨F, hF⟩ : ∃ F : Nat → Value, F = U i := ⟨_, rfl⟩
   rw [← hF] at u0 u1 u2 u3 u4 u5 u6 u7 u8 ⊢
   clear hU hcell hF
   generalize h0 : F 0 = a0 at *
   generalize h1 : F 1 = a1 at *
   generalize h2 : F 2 = a2 at *
   generalize h3 : F 3 = a3 at *
   generalize h4 : F 4 = a4 at *
   generalize h5 : F 5 = a5 at *
   generalize h6 : F 6 = a6 at *
   generalize h7 : F 7 = a7 at *
   generalize h8 : F 8 = a8 at *
   cases u0 with | int f0 =>
   cases u1 with | string f1 =>
   cases u2 with | int f2 =>
   cases u3 with | bool b3 =>
   obtain ⟨A4, l4, c4, rfl⟩ : ∃ A l c, a4 = .slice A l c := by cases u4 <;> exact ⟨_, _, _, rfl⟩
   obtain ⟨A5, l5, c5, rfl⟩ : ∃ A l c, a5 = .slice A l c := by cases u5 <;> exact ⟨_, _, _, rfl⟩
   cases u6 with | int f6 =>
   cases u7 with | int f7 =>
   cases u8 with | string f8 =>
   rename_i s1 _ _ _ s8
   obtain ⟨send, rfl, hpc, hpm, hbs⟩ := bytes_of_isv u4
   obtain ⟨us, rfl, hum, hcr, hus⟩ := garms_of_isv u5
   obtain ⟨b1, rfl, e1⟩ := str_of s1
   obtain ⟨b8, rfl, e8⟩ := str_of s8
   refine ⟨⟨⟨_, b1, _, b3, send, us.map (·.g), _, _, b8⟩, A4, c4, A5, c5, us⟩, fun k u hu => ?_, .inl hbs, ⟨hcr, rfl⟩, fun u hu => (hus u hu).1, hpc, by show b1.length ≤ _; omega, by show b8.length ≤ _; omega, hpm, by show (us.map (·.g)).length ≤ _; rw [List.length_map]; exact hum, i64_of f0, i64_of f2, i64_of f6, i64_of f7, fun a ha => ?_⟩
   ·have hk : k < 9 := (List.getElem?_eq_some_iff.1 hu).1
    match k, hk with
    | 0, _ => cases hu; exact h0
    | 1, _ => cases hu; exact h1
    | 2, _ => cases hu; exact h2
    | 3, _ => cases hu; exact h3
    | 4, _ => cases hu; exact h4
    | 5, _ => cases hu; rw [h5]; show _ = Value.slice A5 (us.map (·.g)).length c5; rw [List.length_map]
    | 6, _ => cases hu; exact h6
    | 7, _ => cases hu; exact h7
    | 8, _ => cases hu; exact h8
   ·obtain ⟨u, hu, rfl⟩ := List.mem_map.1 ha
    exact (hus u hu).2.2)
  refine ⟨vs, hsl, by omega, ⟨cr_of Gs.cells 9 (by decide) (fun _ => rfl) fun i s k hi hk u hu => ?_, fun v hv => ?_, fun v hv => ?_, fun v hv => ?_⟩, fun v hv => ?_⟩
  ·have hil : i < l := by have := (List.getElem?_eq_some_iff.1 hi).1; omega
   have c0 := hcell i k hil hk
   rw [(hp i s hi).1 k u hu] at c0
   exact c0
  ·obtain ⟨i, hi⟩ := List.mem_iff_getElem?.1 hv
   exact (hp i v hi).2.1
  ·obtain ⟨i, hi⟩ := List.mem_iff_getElem?.1 hv
   exact (hp i v hi).2.2.1
  ·obtain ⟨i, hi⟩ := List.mem_iff_getElem?.1 hv
   exact (hp i v hi).2.2.2.1
  ·obtain ⟨i, hi⟩ := List.mem_iff_getElem?.1 hv
   exact (hp i v hi).2.2.2.2
end Go.Proofs.YteohlpmojfjjdaaGreat.Chk
end
section
namespace Go.Proofs.YteohlpmojfjjdaaGreat.Chk
open Go.RowKit
open Lex (Tx Cr cr_ry)
open Vars (scell)
open Book (str_beq)
def TgSays (w : World) (t : Int × Bool) (e : Ending) (w' : World) : Prop := e = .returned (.tuple #[.int .i64 t.1, .bool t.2]) ∧ Below w.heap.size w w'
theorem target_ (w : World) (B : Nat) (A : Option Addr) (n c : Nat) (vs : List Gs) (h : Gbk w B A vs) (hB : B ≤ w.heap.size) (hl : vs.length = n) (hn : n ≤ 100000) (most : Int) (nm : List (BitVec 8)) :
  Calls Tryz.prog 19 #[.agg #[.int .i64 most, .slice A n c], .string (str nm)] w (TgSays w (target ⟨most, vs.map (·.g)⟩ nm)) := by
 have hb1 : Below w.heap.size w (w.alloc (.cells #[.int .i64 most, .slice A n c] 38)) := (Below.refl _ _).alloc (Nat.le_refl _) _
 have HB1 := Lib.hid hb1
 by_cases h1 : nm = wDone
 ·have HT := Lib.hid (show target ⟨most, vs.map (·.g)⟩ nm = (-1, true) by unfold target; rw [if_pos h1])
  subst h1
  rw [show str wDone = ByteArray.mk #[100, 111, 110, 101] from rfl]
  clear h hb1
  go_enter Tryz.func19, Tryz.ntmps19
  go_wp2_with fail
  go_ret2
  rw [HT.out]
  exact ⟨rfl, HB1.out⟩
 have e1 : ((str nm).toList == [100, 111, 110, 101]) = false := by rw [show [100, 111, 110, 101] = (str wDone).toList by rw [Book.str_toList]; rfl, str_beq, decide_eq_false h1]
 by_cases h2 : nm = wFail
 ·have HT := Lib.hid (show target ⟨most, vs.map (·.g)⟩ nm = (-2, true) by unfold target; rw [if_neg h1, if_pos h2])
  subst h2
  rw [show str wFail = ByteArray.mk #[102, 97, 105, 108] from rfl]
  clear h hb1 e1
  go_enter Tryz.func19, Tryz.ntmps19
  go_wp2_with fail
  go_ret2
  rw [HT.out]
  exact ⟨rfl, HB1.out⟩
 have e2 : ((str nm).toList == [102, 97, 105, 108]) = false := by rw [show [102, 97, 105, 108] = (str wFail).toList by rw [Book.str_toList]; rfl, str_beq, decide_eq_false h2]
 by_cases h3 : nm = wDoubt
 ·have HT := Lib.hid (show target ⟨most, vs.map (·.g)⟩ nm = (-3, true) by unfold target; rw [if_neg h1, if_neg h2, if_pos h3])
  subst h3
  rw [show str wDoubt = ByteArray.mk #[100, 111, 117, 98, 116] from rfl]
  clear h hb1 e1 e2
  go_enter Tryz.func19, Tryz.ntmps19
  go_wp2_with fail
  go_ret2
  rw [HT.out]
  exact ⟨rfl, HB1.out⟩
 have e3 : ((str nm).toList == [100, 111, 117, 98, 116]) = false := by rw [show [100, 111, 117, 98, 116] = (str wDoubt).toList by rw [Book.str_toList]; rfl, str_beq, decide_eq_false h3]
 have HT := Lib.hid (show target ⟨most, vs.map (·.g)⟩ nm = tgF (vs.map (·.g)) nm 0 by unfold target; rw [if_neg h1, if_neg h2, if_neg h3])
 have H := Lib.hid (h.below hB hb1)
 have HL := Lib.hid hl
 have HS := Lib.hid (fun x : List (BitVec 8) => str_beq x nm)
 generalize hs' : str nm = s' at *
 have hc1 := Cel.new w 38 [.int .i64 most, .slice A n c]
 obtain ⟨w1, hw1⟩ : ∃ w1, w1 = w.alloc (.cells #[.int .i64 most, .slice A n c] 38) := ⟨_, rfl⟩
 have k1 : w1.cell? ⟨w.heap.size, 1, none⟩ = some (.slice A n c) := by rw [hw1]; exact hc1.cell 1
 rw [← hw1] at H HB1
 clear h hl hs' h1 h2 h3 hb1 hc1
 go_enter Tryz.func19, Tryz.ntmps19
 go_wp2_with fail
 rw [← hw1]
 clear hw1
 go_loopw [6] (fun v6 wr => ∃ (i : Nat), i ≤ n ∧ v6 = .int .i64 (i : Int) ∧ w1 = wr ∧ Hid (tgF (vs.map (·.g)) nm 0 = tgF ((vs.map (·.g)).drop i) nm i)) (fun v6 _ => n - (intOf v6).toNat)
 case atStart => exact ⟨0, Nat.zero_le _, rfl, rfl, Lib.hid rfl⟩
 case round =>
  obtain ⟨i, hi, rfl, hw, HK⟩ := hrel
  obtain ⟨W0, rfl⟩ : ∃ W0, W0 = wr := ⟨_, rfl⟩
  subst hw
  rcases Nat.lt_or_ge i n with hlt | hge
  ·obtain ⟨x, hx⟩ : ∃ x, vs[i]? = some x := ⟨_, List.getElem?_eq_getElem (by rw [HL.out]; exact hlt)⟩
   obtain ⟨ad, rfl, hcell⟩ := H.out.cell hx
   have k2 := hcell 1 _ rfl
   rw [← add_at9 ad (i * 9) 1 (by decide)] at k2
   have HD := Lib.hid (show (vs.map (·.g)).drop i = x.g :: (vs.map (·.g)).drop (i + 1) by
    have hl2 : i < (vs.map (·.g)).length := by rw [List.length_map, HL.out]; exact hlt
    rw [List.drop_eq_getElem_cons hl2, List.getElem_map]
    have := (List.getElem?_eq_some_iff.1 hx).2
    rw [this])
   have hsx := HS.out x.g.name
   obtain ⟨sx, hsx'⟩ : ∃ sx, sx = str x.g.name := ⟨_, rfl⟩
   rw [← hsx'] at hsx k2
   clear hx hsx' hcell
   by_cases he : x.g.name = nm
   ·rw [decide_eq_true he] at hsx
    have HE := Lib.hid (show target ⟨most, vs.map (·.g)⟩ nm = ((i : Int), true) by rw [HT.out, HK.out, HD.out, tgF_hit he])
    clear he HK
    go_wp2_with fail
    go_ret2
    rw [HE.out]
    exact ⟨rfl, HB1.out⟩
   ·rw [decide_eq_false he] at hsx
    have HK2 := Lib.hid (show tgF (vs.map (·.g)) nm 0 = tgF ((vs.map (·.g)).drop (i + 1)) nm (i + 1) by rw [HK.out, HD.out, tgF_miss he])
    clear he HK
    go_wp2_with fail
    exact ⟨⟨i + 1, by omega, by rw [show ((i + 1 : Nat) : Int) = (i : Int) + 1 by omega], trivial, HK2⟩, by simp [intOf]; omega⟩
  ·obtain rfl : i = n := by omega
   have HE := Lib.hid (show target ⟨most, vs.map (·.g)⟩ nm = (0, false) by rw [HT.out, HK.out, List.drop_eq_nil_of_le (by rw [List.length_map, HL.out]; exact Nat.le_refl _)]; rfl)
   go_wp2_with fail
   go_ret2
   rw [HE.out]
   exact ⟨rfl, HB1.out⟩
end Go.Proofs.YteohlpmojfjjdaaGreat.Chk
end
section
namespace Go.Proofs.YteohlpmojfjjdaaGreat.Chk
open Go.RowKit
open Lex (Tx Cr cr_ry)
open Vars (scell Ons rowStr)
open Book (str_beq)
theorem own_mono {w : World} {b b' e size n : Nat} {v : Value} {us : List Value} (h : w.ownsRow b e size v n us) (hb : b' ≤ b) : w.ownsRow b' e size v n us :=
 ⟨h.1, h.2.imp id fun ⟨g, cap, cur, h1, h2, h3⟩ => ⟨g, cap, cur, h1, Nat.le_trans hb h2, h3⟩⟩
def sumA (vs : List Gs) : Nat := (vs.map fun v => v.g.arms.length).sum
theorem drop_at' {α : Type} {l : List α} {i : Nat} {x : α} (h : l[i]? = some x) : l.drop i = x :: l.drop (i + 1) := by
 obtain ⟨hl, hx⟩ := List.getElem?_eq_some_iff.1 h
 rw [List.drop_eq_getElem_cons hl, hx]
theorem sumA_at {vs : List Gs} {i : Nat} {v : Gs} (h : vs[i]? = some v) : sumA (vs.drop i) = v.g.arms.length + sumA (vs.drop (i + 1)) := by
 rw [drop_at' h]; simp [sumA]
theorem str_empty {a : List (BitVec 8)} : ((str a).toList == []) = decide (a = []) := by
 rw [Book.str_toList]
 cases a <;> simp
def VrSays (w : World) (ns : List (List B)) (e : Ending) (w' : World) : Prop := ∃ A c, e = .returned (.slice A ns.length c) ∧ Ons w' w.heap.size A ns.length c ns ∧ Below w.heap.size w w' ∧ ns.length ≤ 50000
theorem vars_ (w : World) (T : Nat) (A : Option Addr) (n c : Nat) (vs : List Gs) (h : Gbk w T A vs) (hT : T ≤ w.heap.size) (hl : vs.length = n) (hn : n ≤ 50000) (hs : sumA vs ≤ 50000) (most : Int) :
  Calls Tryz.prog 18 #[.agg #[.int .i64 most, .slice A n c]] w (VrSays w (varsOf ⟨most, vs.map (·.g)⟩)) := by
 have hb1 : Below w.heap.size w (w.alloc (.cells #[.int .i64 most, .slice A n c] 38)) := (Below.refl _ _).alloc (Nat.le_refl _) _
 have hc1 := Cel.new w 38 [.int .i64 most, .slice A n c]
 obtain ⟨w1, hw1⟩ : ∃ w1, w1 = w.alloc (.cells #[.int .i64 most, .slice A n c] 38) := ⟨_, rfl⟩
 have H := Lib.hid (show Gbk w1 T A vs by rw [hw1]; exact h.below hT hb1)
 have HC1 := Lib.hid (show Cel w1 w.heap.size 38 [.int .i64 most, .slice A n c] by rw [hw1]; exact hc1)
 have HB1 := Lib.hid (show Below w.heap.size w w1 by rw [hw1]; exact hb1)
 have HL := Lib.hid hl
 have hT1 : T ≤ w1.heap.size := Nat.le_trans hT HB1.out.size
 clear h hl hb1 hc1
 go_enter Tryz.func18, Tryz.ntmps18
 go_wp2_with fail
 rw [← hw1]
 clear hw1
 go_loopw [3, 4] (fun v3 v4 wr => ∃ (i : Nat) (A3 : Option Addr) (c3 : Nat) (o : List (List (BitVec 8))), i ≤ n ∧ v4 = .int .i64 (i : Int) ∧ v3 = .slice A3 o.length c3 ∧ Ons wr w1.heap.size A3 o.length c3 o ∧ Below w1.heap.size w1 wr ∧ o.length + sumA (vs.drop i) ≤ 50000 ∧ Hid (varsOf ⟨most, vs.map (·.g)⟩ = ((vs.drop i).map (·.g)).foldl varS o)) (fun _ v4 _ => n - (intOf v4).toNat)
 case atStart => exact ⟨0, none, 0, [], Nat.zero_le _, rfl, rfl, Vars.Ons.nil_ _ _, Below.refl _ _, by simpa using hs, Lib.hid (by rw [List.drop_zero]; rfl)⟩
 case round =>
  obtain ⟨i, A3, c3, o, hi, rfl, rfl, ho, hb, hsum, HK⟩ := hrel
  obtain ⟨W0, hW0⟩ : ∃ W0, W0 = wr := ⟨_, rfl⟩
  rw [← hW0] at ho hb ⊢
  clear hW0
  have HO := Lib.hid ho
  have HB := Lib.hid hb
  have HC0 := Lib.hid (Cel.below HC1.out hb HC1.out.lt)
  have H0 := Lib.hid (H.out.below hT1 hb)
  have k1 := HC0.out.cell 1
  change _ = some (Value.slice A n c) at k1
  clear ho hb
  rcases Nat.lt_or_ge i n with hlt | hge
  ·obtain ⟨x, hx⟩ : ∃ x, vs[i]? = some x := ⟨_, List.getElem?_eq_getElem (by rw [HL.out]; exact hlt)⟩
   rw [sumA_at hx] at hsum
   obtain ⟨ad, rfl, hcell⟩ := H0.out.cell hx
   have k5 := hcell 5 _ rfl
   rw [← add_at9 ad (i * 9) 5 (by decide)] at k5
   have HCELL := Lib.hid hcell
   have HX := Lib.hid hx
   obtain ⟨m, hm⟩ : ∃ m, m = x.g.arms.length := ⟨_, rfl⟩
   rw [← hm] at k5 hsum
   have HM := Lib.hid hm
   have HD := Lib.hid (show (vs.drop i).map (·.g) = x.g :: (vs.drop (i + 1)).map (·.g) by rw [drop_at' hx]; rfl)
   have ham : x.avs.length = m := by rw [hm, ← (H0.out.arms x (List.mem_of_getElem? hx)).2]; simp
   have HAM := Lib.hid ham
   have HAG := Lib.hid (H0.out.arms x (List.mem_of_getElem? hx)).2
   obtain ⟨S, hS⟩ : ∃ S, S = sumA (vs.drop (i + 1)) := ⟨_, rfl⟩
   rw [← hS] at hsum
   have HS := Lib.hid hS
   clear hx hcell hm ham hS
   go_wp2_with fail
   go_loopw [3, 5] (fun v3 v5 wr => ∃ (j : Nat) (A4 : Option Addr) (c4 : Nat) (o' : List (List (BitVec 8))), j ≤ m ∧ v5 = .int .i64 (j : Int) ∧ v3 = .slice A4 o'.length c4 ∧ Ons wr w1.heap.size A4 o'.length c4 o' ∧ Below w1.heap.size w1 wr ∧ o'.length + (m - j) + S ≤ 50000 ∧ Hid (varS o x.g = (x.g.arms.drop j).foldl varA o')) (fun _ v5 _ => m - (intOf v5).toNat)
   case atStart => exact ⟨0, A3, c3, o, Nat.zero_le _, rfl, rfl, HO.out, HB.out, by omega, Lib.hid (by rw [List.drop_zero]; rfl)⟩
   case round =>
    obtain ⟨j, A4, c4, o', hj, rfl, rfl, ho, hb, hsm, HK2⟩ := hrel
    obtain ⟨W2, hW2⟩ : ∃ W2, W2 = wr := ⟨_, rfl⟩
    rw [← hW2] at ho hb ⊢
    clear hW2 k1 k5
    have HO2 := Lib.hid ho
    have HB2 := Lib.hid hb
    have HC2 := Lib.hid (Cel.below HC1.out hb HC1.out.lt)
    have H2 := Lib.hid (H.out.below hT1 hb)
    have k1 := HC2.out.cell 1
    change _ = some (Value.slice (some ad) n c) at k1
    obtain ⟨ad', had, hcell⟩ := H2.out.cell HX.out
    cases had
    have k5 := hcell 5 _ rfl
    rw [← add_at9 ad (i * 9) 5 (by decide), ← HM.out] at k5
    clear ho hb hcell
    rcases Nat.lt_or_ge j m with hlj | hgj
    ·obtain ⟨a, ha⟩ : ∃ a, x.avs[j]? = some a := ⟨_, List.getElem?_eq_getElem (by rw [HAM.out]; exact hlj)⟩
     obtain ⟨ad5, h5, hac⟩ := H2.out.acell HX.out ha
     have k2 := hac 2 _ rfl
     rw [← add_at9 ad5 (j * 4) 2 (by decide)] at k2
     rw [h5] at k5
     have HDJ := Lib.hid (show x.g.arms.drop j = a.g :: x.g.arms.drop (j + 1) by
      rw [← HAG.out]
      exact drop_at' (by rw [List.getElem?_map, ha]; rfl))
     have hem := str_empty (a := a.g.as_)
     have con := at_ W2 A4 o'.length c4 o' (cr_ry (Ry.of_own HO2.out (by decide))) rfl (by omega) a.g.as_
     have HSC := Lib.hid (show scell a.g.as_ = .string (str a.g.as_) from rfl)
     obtain ⟨st, hst⟩ : ∃ st, st = str a.g.as_ := ⟨_, rfl⟩
     rw [← hst] at k2 hem con HSC
     obtain ⟨z, hz⟩ : ∃ z, z = atOf o' a.g.as_ := ⟨_, rfl⟩
     rw [← hz] at con
     have HZ := Lib.hid hz
     clear hac ha hst hz
     by_cases hemp : a.g.as_ = []
     ·rw [decide_eq_true hemp] at hem
      have HK3 := Lib.hid (show varS o x.g = (x.g.arms.drop (j + 1)).foldl varA o' by
       rw [HK2.out, HDJ.out, List.foldl_cons]
       rw [show varA o' a.g = o' by unfold varA; rw [if_neg (by simp [hemp])]])
      clear hemp HK2 con
      go_wp2_with fail
      exact ⟨⟨j + 1, A4, c4, o', by omega, by rw [show ((j + 1 : Nat) : Int) = (j : Int) + 1 by omega], rfl, HO2.out, HB2.out, by omega, HK3⟩, by simp [intOf]; omega⟩
     ·rw [decide_eq_false hemp] at hem
      by_cases hneg : z < 0
      ·have hzd : decide (z < 0) = true := decide_eq_true hneg
       have HK3 := Lib.hid (show varS o x.g = (x.g.arms.drop (j + 1)).foldl varA (o' ++ [a.g.as_]) by
        rw [HK2.out, HDJ.out, List.foldl_cons]
        rw [show varA o' a.g = o' ++ [a.g.as_] by unfold varA; rw [if_pos ⟨hemp, by rw [← HZ.out]; exact hneg⟩]])
       have hbA : Below W2.heap.size W2 (W2.alloc (.cells #[.string st] 9)) := (Below.refl _ _).alloc (Nat.le_refl _) _
       have HOA := Lib.hid (Vars.Ons.below HO2.out hbA)
       have HBA := Lib.hid (HB2.out.trans (hbA.mono HB2.out.size))
       have hBA : w1.heap.size ≤ (W2.alloc (.cells #[.string st] 9)).heap.size := HBA.out.size
       have HSRC := Lib.hid (Ry.src (m := 1) (Ry.of_cel (Cel.new W2 9 [.string st])) (by simp))
       have h1c : ∀ u ∈ [Value.string st], u.oneCell' = true := by intro u hu; rw [List.mem_singleton.1 hu]; rfl
       clear hemp HK2 hbA hneg
       go_wp2_with fail
       refine con.mono ?_
       clear con
       rintro e w' ⟨rfl, rfl⟩
       go_wp2_with ((at_builtin; refine wpList_append_any _ rfl _ _ 28 rfl w1.heap.size 9 rowStr (.slice A4 o'.length c4) o'.length (o'.map scell) rfl HOA.out (some ⟨W2.heap.size, 0, none⟩) 1 1 [.string st] rfl rfl HSRC.out h1c (o'.length + 1) _ rfl rfl (by unfold maxLen; omega) (by omega) hBA ?_; intro A8 c8 w8 ho8 hg8 _; have HB8 := Lib.hid (HBA.out.trans (Vars.Ons.grew HOA.out hg8 hBA)); have HO8 := Lib.hid (show Ons w8 w1.heap.size A8 (o'.length + 1) c8 (o' ++ [a.g.as_]) by unfold Ons; rw [List.map_append, List.map_cons, List.map_nil, HSC.out]; exact ho8); clear ho8 hg8))
       exact ⟨⟨j + 1, A8, c8, o' ++ [a.g.as_], by omega, by rw [show ((j + 1 : Nat) : Int) = (j : Int) + 1 by omega], by simp, by rw [show (o' ++ [a.g.as_]).length = o'.length + 1 by simp]; exact HO8.out, HB8.out, by simp; omega, HK3⟩, by simp [intOf]; omega⟩
      ·have hzd : decide (z < 0) = false := decide_eq_false hneg
       have HK3 := Lib.hid (show varS o x.g = (x.g.arms.drop (j + 1)).foldl varA o' by
        rw [HK2.out, HDJ.out, List.foldl_cons]
        rw [show varA o' a.g = o' by unfold varA; rw [if_neg (by rw [← HZ.out]; exact fun hh => hneg hh.2)]])
       clear hemp HK2 hneg
       go_wp2_with fail
       refine con.mono ?_
       clear con
       rintro e w' ⟨rfl, rfl⟩
       go_wp2_with fail
       exact ⟨⟨j + 1, A4, c4, o', by omega, by rw [show ((j + 1 : Nat) : Int) = (j : Int) + 1 by omega], rfl, HO2.out, HB2.out, by omega, HK3⟩, by simp [intOf]; omega⟩
    ·obtain rfl : j = m := by omega
     have HK3 := Lib.hid (show varsOf ⟨most, vs.map (·.g)⟩ = ((vs.drop (i + 1)).map (·.g)).foldl varS o' by
      rw [HK.out, HD.out, List.foldl_cons, HK2.out, List.drop_eq_nil_of_le (by rw [← HM.out]; exact Nat.le_refl _)]; rfl)
     clear HK
     go_wp2_with fail
     exact ⟨⟨i + 1, A4, c4, o', by omega, by rw [show ((i + 1 : Nat) : Int) = (i : Int) + 1 by omega], rfl, HO2.out, HB2.out, by rw [← HS.out]; omega, HK3⟩, by simp [intOf]; omega⟩
  ·obtain rfl : i = n := by omega
   have HE := Lib.hid (show varsOf ⟨most, vs.map (·.g)⟩ = o by rw [HK.out, List.drop_eq_nil_of_le (by rw [HL.out]; exact Nat.le_refl _)]; rfl)
   go_wp2_with fail
   go_ret
   rw [HE.out]
   exact ⟨A3, c3, rfl, own_mono HO.out HB1.out.size, HB1.out.trans (HB.out.mono HB1.out.size), by omega⟩
end Go.Proofs.YteohlpmojfjjdaaGreat.Chk
end
section
namespace Go.Proofs.YteohlpmojfjjdaaGreat.Reg
open Go.RowKit
def Rc (w : World) (b : Nat) (sv : Value) (bad place : Nat) : Prop := Cel w b 161 [sv, .int .i64 (bad : Int), .int .i64 (place : Int)]
structure Ra (w w' : World) (b : Nat) (sv : Value) (bad place : Nat) : Prop where
 rc : Rc w' b sv bad place
 frm : Frm [b] w w'
theorem Rc.lt {w : World} {b bad p : Nat} {sv : Value} (h : Rc w b sv bad p) : b < w.heap.size := Cel.lt h
theorem Ra.refl {w : World} {b bad p : Nat} {sv : Value} (h : Rc w b sv bad p) : Ra w w b sv bad p := ⟨h, Frm.refl _ _⟩
theorem Ra.trans {w w1 w2 : World} {b bad p bad' p' : Nat} {sv : Value} (h : Ra w w1 b sv bad p) (h2 : Ra w1 w2 b sv bad' p') : Ra w w2 b sv bad' p' := ⟨h2.rc, h.frm.trans h2.frm⟩
theorem Ra.below {w w1 w2 : World} {b bad p : Nat} {sv : Value} (h : Ra w w1 b sv bad p) (hb : Below w1.heap.size w1 w2) : Ra w w2 b sv bad p := ⟨Cel.below h.rc hb h.rc.lt, h.frm.trans (Frm.of_below hb)⟩
theorem Ra.bs {w w' : World} {b bad p : Nat} {sv : Value} (h : Ra w w' b sv bad p) {A : Option Addr} {B n : Nat} {s : List (BitVec 8)} (hs : Bs w B A n s) (hB : B ≤ b) (hw : b < w.heap.size) : Bs w' B A n s := hs.below (h.frm.below (by omega) (by simp; omega))
theorem Ra.setNew {w w1 : World} {b bad p : Nat} {sv : Value} (h : Ra w w1 b sv bad p) {g : Nat} (hg : w.heap.size ≤ g) (hw : b < w.heap.size) (i : Nat) (u : Value) : Ra w (w1.setCell ⟨g, i, none⟩ u) b sv bad p :=
 ⟨Cel.far h.rc (by simp; omega) u, h.frm.setNew hg u⟩
theorem Ra.setNew3 {w w1 : World} {b bad p : Nat} {sv : Value} (h : Ra w w1 b sv bad p) {g : Nat} (hg : w.heap.size ≤ g) (hw : b < w.heap.size) (u0 u1 u2 : Value) : Ra w (((w1.setCell ⟨g, 0, none⟩ u0).setCell ⟨g, 1, none⟩ u1).setCell ⟨g, 2, none⟩ u2) b sv bad p :=
 ((h.setNew hg hw 0 u0).setNew hg hw 1 u1).setNew hg hw 2 u2
theorem rwrong (w : World) (b : Nat) (sv : Value) (k bad p : Nat) (h : Rc w b sv 0 p) :
  Calls Tryz.prog 109 #[.pointer (some ⟨b, 0, none⟩), .int .i64 (k : Int), .int .i64 (bad : Int)] w fun e w' => e = .returned (.tuple #[]) ∧ Ra w w' b sv bad k := by
 have h1 := Cel.cell h 1
 have f1 := Cel.free h 1
 have h2 := Cel.cell h 2
 have f2 := Cel.free h 2
 have H := Lib.hid h
 clear h
 go_enter Tryz.func109, Tryz.ntmps109
 go_wp2_with fail
 go_end0
 exact ⟨rfl, (Cel.set H.out 1 _).set 2 _, ((Frm.refl [b] w).set (by simp) _).set (by simp) _⟩
theorem ris (w : World) (B b : Nat) (A : Option Addr) (n c bad p k : Nat) (s : List (BitVec 8)) (x : BitVec 8) (h : Rc w b (.slice A n c) bad p) (hs : Bs w B A n s) :
  Calls Tryz.prog 142 #[.pointer (some ⟨b, 0, none⟩), .int .i64 (k : Int), v8 x] w fun e w' => e = .returned (.bool (decide (s[k]? = some x))) ∧ w = w' := by
 have h0 := Cel.cell h 0
 have hl := hs.len
 rcases Nat.lt_or_ge k n with hlt | hge
 ·obtain ⟨ad, rfl, _, hc⟩ := hs.at_ hlt
  have e : s[k]? = some (s.getD k 0#8) := by rw [List.getD_eq_getElem?_getD, List.getElem?_eq_getElem (by omega)]; rfl
  have e2 : decide (s[k]? = some x) = (((s.getD k 0#8).toNat : Int) == (x.toNat : Int)) := by
   rw [e, Bool.eq_iff_iff]
   simp only [beq_iff_eq, decide_eq_true_eq, Option.some.injEq]
   exact ⟨fun q => by rw [q], fun q => BitVec.eq_of_toNat_eq (by omega)⟩
  rw [e2]
  generalize s.getD k 0#8 = y at *
  have d1 : decide ((k : Int) < (n : Int)) = true := by simp; omega
  clear h hs e e2
  go_enter Tryz.func142, Tryz.ntmps142
  go_wp2_with fail
  go_ret
  exact ⟨rfl, rfl⟩
 ·have e : s[k]? = none := List.getElem?_eq_none (by omega)
  rw [e]
  have d1 : decide (k < n) = false := by simp; omega
  clear h hs e
  go_enter Tryz.func142, Tryz.ntmps142
  go_wp2_with fail
  go_ret
  exact ⟨rfl, rfl⟩
theorem rnamed (w : World) (x : BitVec 8) :
  Calls Tryz.prog 192 #[v8 x] w fun e w' => e = .returned (.bool (named x)) ∧ w = w' := by
 unfold named
 by_cases h1 : 48 ≤ x.toNat
 all_goals by_cases h2 : x.toNat ≤ 57
 all_goals by_cases h3 : 65 ≤ x.toNat
 all_goals by_cases h4 : x.toNat ≤ 90
 all_goals by_cases h5 : 97 ≤ x.toNat
 all_goals by_cases h6 : x.toNat ≤ 122
 all_goals first | (exfalso; omega) | skip
 all_goals
  go_enter Tryz.func192, Tryz.ntmps192
  go_wp2_with fail
  go_ret
  simp [*] <;> omega
def escd (s : List (BitVec 8)) (k : Nat) : Except Nat (BitVec 8 × Nat) := match s[k]? with
 | none => .error k
 | some c => match escB c with
  | none => .error k
  | some y => .ok (y, k + 1)
def RbSays (w : World) (b : Nat) (sv : Value) (p n : Nat) (x : Except Nat (BitVec 8 × Nat)) (e : Ending) (w' : World) : Prop := match x with
 | .error q => ∃ (u : BitVec 8) (j : Nat), e = .returned (.tuple #[v8 u, .int .i64 (j : Int)]) ∧ j ≤ n + 2 ∧ Ra w w' b sv 2 q
 | .ok (y, j) => e = .returned (.tuple #[v8 y, .int .i64 (j : Int)]) ∧ Ra w w' b sv 0 p
theorem rescaped (w : World) (B b : Nat) (A : Option Addr) (n c p k : Nat) (s : List (BitVec 8)) (h : Rc w b (.slice A n c) 0 p) (hs : Bs w B A n s) (hk : k ≤ n) (hn : n ≤ 100000) :
  Calls Tryz.prog 178 #[.pointer (some ⟨b, 0, none⟩), .int .i64 (k : Int)] w (RbSays w b (.slice A n c) p n (escd s k)) := by
 have h0 := Cel.cell h 0
 have hl := hs.len
 have H := Lib.hid h
 rcases Nat.lt_or_ge k n with hlt | hge
 ·obtain ⟨ad, rfl, _, hc⟩ := hs.at_ hlt
  have e : s[k]? = some (s.getD k 0#8) := by rw [List.getD_eq_getElem?_getD, List.getElem?_eq_getElem (by omega)]; rfl
  unfold escd
  rw [e]
  dsimp only
  generalize s.getD k 0#8 = y at *
  have d1 : decide (n ≤ k) = false := by simp; omega
  clear h hs e
  unfold escB
  have e1 : ((y.toNat : Int) == 110) = decide (y = 110#8) := v8_lit (by decide)
  have e2 : ((y.toNat : Int) == 116) = decide (y = 116#8) := v8_lit (by decide)
  have e3 : ((y.toNat : Int) == 114) = decide (y = 114#8) := v8_lit (by decide)
  by_cases h1 : y = 110#8
  ·subst h1
   go_enter Tryz.func178, Tryz.ntmps178
   go_wp2_with fail
   go_ret2
   exact ⟨rfl, Ra.refl H.out⟩
  by_cases h2 : y = 116#8
  ·subst h2
   go_enter Tryz.func178, Tryz.ntmps178
   go_wp2_with fail
   go_ret2
   exact ⟨rfl, Ra.refl H.out⟩
  by_cases h3 : y = 114#8
  ·subst h3
   go_enter Tryz.func178, Tryz.ntmps178
   go_wp2_with fail
   go_ret2
   exact ⟨rfl, Ra.refl H.out⟩
  rw [decide_eq_false h1] at e1
  rw [decide_eq_false h2] at e2
  rw [decide_eq_false h3] at e3
  rw [if_neg h1, if_neg h2, if_neg h3]
  have con := rnamed w y
  clear h1 h2 h3
  cases hnm : named y <;> rw [hnm] at con <;> clear hnm
  ·go_enter Tryz.func178, Tryz.ntmps178
   go_wp2_with fail
   refine con.mono ?_
   rintro e w1 ⟨rfl, rfl⟩
   go_wp2_with fail
   go_ret2
   exact ⟨rfl, Ra.refl H.out⟩
  ·go_enter Tryz.func178, Tryz.ntmps178
   go_wp2_with fail
   refine con.mono ?_
   rintro e w1 ⟨rfl, rfl⟩
   go_wp2_with fail
   refine (rwrong w b _ k 2 p H.out).mono ?_
   rintro e w2 ⟨rfl, hra⟩
   have HRA := Lib.hid hra
   clear hra
   go_wp2_with fail
   go_ret2
   exact ⟨y, k + 1, rfl, by omega, HRA.out⟩
 ·obtain rfl : k = n := by omega
  have e : s[k]? = none := List.getElem?_eq_none (by omega)
  unfold escd
  rw [e]
  dsimp only
  clear h hs e
  go_enter Tryz.func178, Tryz.ntmps178
  go_wp2_with fail
  refine (rwrong w b _ k 2 p H.out).mono ?_
  rintro e w2 ⟨rfl, hra⟩
  have HRA := Lib.hid hra
  clear hra
  go_wp2_with fail
  go_ret2
  exact ⟨0#8, k, rfl, by omega, HRA.out⟩
end Go.Proofs.YteohlpmojfjjdaaGreat.Reg
end
