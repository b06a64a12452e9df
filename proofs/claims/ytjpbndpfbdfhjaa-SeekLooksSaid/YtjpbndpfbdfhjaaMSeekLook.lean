/-
  The document's Look (layer 10): every arm, every beginning, every end.
-/
import Derived.Test.YtjpbndpfbdfhjaaMBaseB
import Derived.Test.YtjpbndpfbdfhjaaMSeekA
import Derived.Test.YtjpbndpfbdfhjaaMNfaAs
import Derived.Deep.CutBlock
import Derived.Deep.CutRange
import Derived.Deep.DeepCutAuto
namespace Go.Proofs.Ytjpbndpfbdfhjaa.Seek
open Go.RowKit Go.Proofs.Ytjpbndpfbdfhjaa.Nfa
open Go.Proofs.Ytjpbndpfbdfhjaa.Reg (Sp RSpn sflat)
set_option linter.unusedVariables false
set_option linter.unusedSimpArgs false

/-- An arm: its instructions, where they lie, and its slice's room. -/
structure Av where
  us : List Iv
  A : Option Addr
  c : Nat
def Av.cell (x : Av) : Value := .slice x.A x.us.length x.c
def Av.p (x : Av) : List In := x.us.map (·.i)
/-- Instructions that can be walked: their numbers are numbers, their spans are few. -/
def Fine (us : List Iv) : Prop := us.length ≤ 1000 ∧ (∀ u ∈ us, (-9223372036854775808 ≤ u.i.x ∧ u.i.x < 9223372036854775808) ∧ -9223372036854775808 ≤ u.i.y ∧ u.i.y < 9223372036854775808) ∧ ∀ u ∈ us, u.i.sp.length ≤ 1000
/-- The document's arms, that can be read. -/
structure Ras (w : World) (A : Option Addr) (xs : List Av) : Prop where
  ry : Cz w A (xs.map Av.cell)
  arms : ∀ x ∈ xs, Rr w x.A x.us
theorem Rr.below' {w w' : World} {A : Option Addr} {us : List Iv} (h : Rr w A us) (hb : Below w.heap.size w w') : Rr w' A us := ⟨Ry.below h.ry hb, fun u hu => Ry.below (h.sp u hu) hb⟩
theorem Ras.below {w w' : World} {A : Option Addr} {xs : List Av} (h : Ras w A xs) (hb : Below w.heap.size w w') : Ras w' A xs := ⟨h.ry.below hb, fun x hx => Rr.below' (h.arms x hx) hb⟩
theorem Ras.at_ {w : World} {A : Option Addr} {xs : List Av} (h : Ras w A xs) {i : Nat} {x : Av} (hi : xs[i]? = some x) : ∃ ad, A = some ad ∧ w.cell? (ad.add i) = some (.slice x.A x.us.length x.c) := by
  have e : (xs.map Av.cell)[i]? = some x.cell := by rw [List.getElem?_map, hi]; rfl
  obtain ⟨ad, rfl, hc⟩ := h.ry (fun q => by rw [q] at e; simp at e)
  exact ⟨ad, rfl, hc i _ e⟩
theorem bs_take {w : World} {B m k : Nat} {A : Option Addr} {bs : List (BitVec 8)} (h : Bs w B A m bs) (hk : k ≤ m) : Bs w B A k (bs.take k) := by
  refine ⟨by rw [List.length_take, h.1]; omega, fun hn => ?_⟩
  obtain ⟨ad, e, hb, hc⟩ := h.2 (by omega)
  refine ⟨ad, e, hb, fun j hj => ?_⟩
  rw [hc j (by omega), List.getD_eq_getElem?_getD, List.getD_eq_getElem?_getD, List.getElem?_take, if_pos hj]
theorem results4 {P : Program} {fn : Func} {tmps : Array Value} {w : World} (a b c d : Tmp) (hr : fn.results = #[.tmp a, .tmp b, .tmp c, .tmp d]) (u v x y : Value) (ha : tmps.getD a undef = u) (hb : tmps.getD b undef = v) (hc : tmps.getD c undef = x) (hd : tmps.getD d undef = y) : (results fn tmps).run P w = .ok (.tuple #[u, v, x, y]) w := by
  unfold results
  rw [hr]
  simp only [List.mapM_toArray, List.mapM_cons, List.mapM_nil, ha, hb, hc, hd]
  simp
def armZ : Option (Nat × Nat) → Int
  | none => -1
  | some (a, _) => a
def begZ : Option (Nat × Nat) → Int
  | none => 0
  | some (_, g) => g
/-- What Look tells: r: the arm, the beginning, the end. -/
def LkTells (ps : List (List In)) (b : List (BitVec 8)) (over : Bool) (a f t n : Int) : Prop :=
  (None_ ps b ∧ a = 0 ∧ f = 0 ∧ t = 0 ∧ n = if over then 2 else 1) ∨ ∃ i g e : Nat, Best ps b i g e ∧ a = i ∧ f = g ∧ t = e ∧ n = 0
def LkSays (w : World) (ps : List (List In)) (b : List (BitVec 8)) (over : Bool) (e : Ending) (w' : World) : Prop :=
  Below w.heap.size w w' ∧ ∃ a f t n : Int, e = .returned (.tuple #[.int .i64 a, .int .i64 f, .int .i64 t, .int .i64 n]) ∧ LkTells ps b over a f t n
theorem met_ends {ps : List (List In)} {p : List In} {bs : List (BitVec 8)} {i f t : Nat} {L : List Bool} (hp : ps[i]? = some p) (h : EndsTo p bs f (bs.length + 1) L) (hf : f ≤ t) (ht : t ≤ bs.length) : L[t]? = some true ↔ Met ps bs i f t := by
  rw [h.2 t hf (by omega)]
  constructor
  · intro hh; exact ⟨p, hp, hf, ht, hh⟩
  · rintro ⟨p', hp', _, _, hh⟩
    rw [hp] at hp'; cases hp'; exact hh

set_option maxRecDepth 100000 in
set_option maxHeartbeats 4000000 in
theorem look_ (w : World) (A : Option Addr) (n c : Nat) (xs : List Av) (h : Ras w A xs) (hl : xs.length = n) (hn : n ≤ 1000) (fine : ∀ x ∈ xs, Fine x.us) (B : Option Addr) (m bc : Nat) (bs : List (BitVec 8)) (hb : Bs w w.heap.size B m bs) (hm : m ≤ 1000) (hcap : m ≤ bc) :
    Calls Try.prog 12 #[.slice A n c, .slice B m bc] w (LkSays w (xs.map Av.p) (bs.take 256) (decide (256 ≤ m))) := by
  obtain ⟨ps, hps⟩ : ∃ ps, ps = xs.map Av.p := ⟨_, rfl⟩
  have HPS := Lib.hid hps
  rw [← hps]
  have hpl : ps.length = n := by rw [hps, List.length_map, hl]
  have HPL := Lib.hid hpl
  have H := Lib.hid h
  have HL := Lib.hid hl
  have HF := Lib.hid fine
  have hbl : bs.length = m := hb.1
  clear h hl fine hps hpl
  obtain ⟨bk, hbk⟩ : ∃ bk, bk = bs.take 256 := ⟨_, rfl⟩
  obtain ⟨k, hk⟩ : ∃ k, k = min m 256 := ⟨_, rfl⟩
  have HBK := Lib.hid (show Bs w w.heap.size B k bk by
    have := bs_take hb (show k ≤ m by omega)
    rw [hbk]
    rcases Nat.lt_or_ge 256 m with h | h
    · rw [show k = 256 by omega] at this ⊢; exact this
    · rw [List.take_of_length_le (by omega)] at this ⊢; exact this)
  have hkl : bk.length = k := HBK.out.1
  rw [← hbk]
  have HKL := Lib.hid hkl
  have HK := Lib.hid hk
  have hk1 : k ≤ 256 := by omega
  have HOV := Lib.hid (show decide (256 ≤ (m : Int)) = decide (256 ≤ m) by by_cases h : 256 ≤ m <;> simp [h] <;> omega)
  clear hb hbk hkl hbl hk
  go_enter Try.func12, Try.ntmps12
  go_upto_if 19 with fail
  go_cut [1] (fun s1 wx => s1 = .slice B k bc ∧ w = wx)
  case first =>
    by_cases hov : 256 ≤ m
    · have hk2 : k = 256 := by have := HK.out; omega
      subst hk2
      go_wp2_with fail
      go_meet
      case rel => exact ⟨rfl, rfl⟩
    · have hk2 : k = m := by have := HK.out; omega
      subst hk2
      go_wp2_with fail
      go_meet
      case rel => exact ⟨rfl, rfl⟩
  case rest =>
    obtain ⟨rfl, rfl⟩ := hcut
    go_wp2_with fail
    go_loopw [9, 10, 11, 12] (fun v9 v10 v11 v12 wr => ∃ (i e : Nat) (o : Option (Nat × Nat)), i ≤ n ∧ v9 = .int .i64 (armZ o) ∧ v10 = .int .i64 (begZ o) ∧ v11 = .int .i64 (e : Int) ∧ v12 = .int .i64 (i : Int) ∧ Lk ps bk i 0 0 o e ∧ Below w.heap.size w wr) (fun _ _ _ v12 _ => n - (intOf v12).toNat)
    case atStart => exact ⟨0, k + 1, none, Nat.zero_le _, rfl, rfl, rfl, rfl, by have := Lk.start (ps := ps) (b := bk); rw [HKL.out] at this; exact this, Below.refl _ _⟩
    case round =>
      obtain ⟨i, e, o, hi, rfl, rfl, rfl, rfl, hlk, hbr⟩ := hrel
      obtain ⟨W1, rfl⟩ : ∃ W1, W1 = wr := ⟨_, rfl⟩
      have HLK := Lib.hid hlk
      have HBR := Lib.hid hbr
      clear hlk hbr
      rcases Nat.lt_or_ge i n with hlt | hge
      · obtain ⟨x, hx⟩ : ∃ x, xs[i]? = some x := ⟨_, List.getElem?_eq_getElem (by rw [HL.out]; exact hlt)⟩
        have HPI := Lib.hid (show ps[i]? = some x.p by rw [HPS.out, List.getElem?_map, hx]; rfl)
        have HX := Lib.hid hx
        clear hx
        go_wp2_with fail
        go_loopw [9, 10, 11, 13] (fun v9 v10 v11 v13 wr => ∃ (f e : Nat) (o : Option (Nat × Nat)), f ≤ k + 1 ∧ v9 = .int .i64 (armZ o) ∧ v10 = .int .i64 (begZ o) ∧ v11 = .int .i64 (e : Int) ∧ v13 = .int .i64 (f : Int) ∧ Lk ps bk i f f o e ∧ Below w.heap.size w wr) (fun _ _ _ v13 _ => k + 1 - (intOf v13).toNat)
        case atStart => exact ⟨0, e, o, Nat.zero_le _, rfl, rfl, rfl, rfl, HLK.out, HBR.out⟩
        case round =>
          clear HLK HBR
          obtain ⟨f, e, o, hf, rfl, rfl, rfl, rfl, hlk, hbr⟩ := hrel
          obtain ⟨W2, rfl⟩ : ∃ W2, W2 = wr := ⟨_, rfl⟩
          have HLK := Lib.hid hlk
          have HBR := Lib.hid hbr
          have hle := hlk.le
          rw [HKL.out] at hle
          clear hlk hbr
          by_cases hfk : f ≤ k
          · by_cases hfe : f ≤ e
            · obtain ⟨ad, rfl, a0⟩ := (H.out.below HBR.out).at_ HX.out
              obtain ⟨f1, f2, f3⟩ := HF.out x (List.mem_of_getElem? HX.out)
              have con := ends_ (pc := x.c) ((H.out.below HBR.out).arms x (List.mem_of_getElem? HX.out)) rfl f1 f2 f3 B k bc bk ((HBK.out.below HBR.out).more HBR.out.size) (by omega) f hfk
              clear f1 f2 f3
              go_wp2_with fail
              refine con.mono ?_
              clear con a0
              rintro e3 w3 ⟨L, rfl, hcl, hen, hb3⟩
              rw [HKL.out] at hen ⊢
              obtain ⟨G, hG⟩ : ∃ G, G = W2.heap.size := ⟨_, rfl⟩
              rw [← hG] at hcl ⊢
              have HCL := Lib.hid hcl
              have HEN := Lib.hid hen
              have HB3 := Lib.hid (HBR.out.trans (hb3.mono HBR.out.size))
              have hLl : L.length = k + 1 := by have := hen.1; rw [HKL.out] at this; exact this
              clear hcl hen hb3 hG
              go_wp2_with fail
              go_loopw [9, 10, 11, 15] (fun v9 v10 v11 v15 wr => ∃ (t e : Nat) (o : Option (Nat × Nat)), f ≤ t ∧ t ≤ k + 1 ∧ v9 = .int .i64 (armZ o) ∧ v10 = .int .i64 (begZ o) ∧ v11 = .int .i64 (e : Int) ∧ v15 = .int .i64 (t : Int) ∧ Lk ps bk i f t o e ∧ wr = w3) (fun _ _ _ v15 _ => k + 1 - (intOf v15).toNat)
              case atStart => exact ⟨f, e, o, Nat.le_refl _, by omega, rfl, rfl, rfl, rfl, HLK.out, rfl⟩
              case round =>
                clear HLK
                obtain ⟨t, e, o, hft, ht, rfl, rfl, rfl, rfl, hlk, rfl⟩ := hrel
                have HLK := Lib.hid hlk
                have hle2 := hlk.le
                rw [HKL.out] at hle2
                clear hlk
                by_cases htk : t ≤ k
                · by_cases hte : t < e
                  · have hcell : wr.cell? ⟨G, t, none⟩ = some (.bool (L.getD t false)) := by
                      rw [HCL.out.cell t, List.getElem?_map, List.getElem?_eq_getElem (by omega), List.getD_eq_getElem?_getD, List.getElem?_eq_getElem (by omega)]; rfl
                    have hiff := met_ends HPI.out (by rw [HKL.out]; exact HEN.out) hft (by rw [HKL.out]; exact htk)
                    have hget : L[t]? = some (L.getD t false) := by rw [List.getD_eq_getElem?_getD, List.getElem?_eq_getElem (by omega)]; rfl
                    rw [hget] at hiff
                    cases hb : L.getD t false
                    · rw [hb] at hcell hiff
                      have HN := Lib.hid (HLK.out.miss (fun hm => by have := hiff.2 hm; simp at this))
                      clear hget hb hiff
                      go_wp2_with fail
                      exact ⟨⟨t + 1, e, o, by omega, by omega, rfl, rfl, rfl, by rw [show ((t + 1 : Nat) : Int) = (t : Int) + 1 by omega], HN.out, by simp⟩, by simp [intOf]; omega⟩
                    · rw [hb] at hcell hiff
                      have HN := Lib.hid (HLK.out.hit hte (hiff.1 rfl))
                      clear hget hb hiff
                      go_wp2_with fail
                      exact ⟨⟨t + 1, t, some (i, f), by omega, by omega, rfl, rfl, rfl, by rw [show ((t + 1 : Nat) : Int) = (t : Int) + 1 by omega], HN.out, by simp⟩, by simp [intOf]; omega⟩
                  · have HN := Lib.hid (HLK.out.nextF (.inl (by omega)))
                    go_wp2_with fail
                    exact ⟨⟨f + 1, e, o, by omega, rfl, rfl, rfl, by rw [show ((f + 1 : Nat) : Int) = (f : Int) + 1 by omega], HN.out, HB3.out⟩, by simp [intOf]; omega⟩
                · have HN := Lib.hid (HLK.out.nextF (.inr (by rw [HKL.out]; omega)))
                  go_wp2_with fail
                  exact ⟨⟨f + 1, e, o, by omega, rfl, rfl, rfl, by rw [show ((f + 1 : Nat) : Int) = (f : Int) + 1 by omega], HN.out, HB3.out⟩, by simp [intOf]; omega⟩
            · have HN := Lib.hid (HLK.out.nextI (.inl (by omega)))
              go_wp2_with fail
              exact ⟨⟨i + 1, e, o, by omega, rfl, rfl, rfl, by rw [show ((i + 1 : Nat) : Int) = (i : Int) + 1 by omega], HN.out, HBR.out⟩, by simp [intOf]; omega⟩
          · have HN := Lib.hid (HLK.out.nextI (.inr (by rw [HKL.out]; omega)))
            go_wp2_with fail
            exact ⟨⟨i + 1, e, o, by omega, rfl, rfl, rfl, by rw [show ((i + 1 : Nat) : Int) = (i : Int) + 1 by omega], HN.out, HBR.out⟩, by simp [intOf]; omega⟩
      · obtain rfl : i = n := by omega
        have HDONE := Lib.hid (show (o = none ∧ None_ ps bk) ∨ ∃ a g, o = some (a, g) ∧ Best ps bk a g e from Lk.done (by rw [HPL.out]; exact HLK.out))
        rcases HDONE.out with ⟨rfl, hno⟩ | ⟨a, g, rfl, hbest⟩
        · have HNO := Lib.hid hno
          have harm : armZ none = -1 := rfl
          clear hno
          by_cases hov : 256 ≤ m
          · go_wp2_with fail
            refine bodyPost_ret (v := .tuple #[.int .i64 0, .int .i64 0, .int .i64 0, .int .i64 2]) (results4 4 5 6 7 rfl _ _ _ _ rfl rfl rfl rfl) rfl ?_
            exact ⟨HBR.out, 0, 0, 0, 2, rfl, .inl ⟨HNO.out, rfl, rfl, rfl, rfl⟩⟩
          · go_wp2_with fail
            refine bodyPost_ret (v := .tuple #[.int .i64 0, .int .i64 0, .int .i64 0, .int .i64 1]) (results4 4 5 6 7 rfl _ _ _ _ rfl rfl rfl rfl) rfl ?_
            exact ⟨HBR.out, 0, 0, 0, 1, rfl, .inl ⟨HNO.out, rfl, rfl, rfl, rfl⟩⟩
        · have HBE := Lib.hid hbest
          have harm : armZ (some (a, g)) = (a : Int) := rfl
          have hbeg : begZ (some (a, g)) = (g : Int) := rfl
          clear hbest
          go_wp2_with fail
          refine bodyPost_ret (v := .tuple #[.int .i64 (a : Int), .int .i64 (g : Int), .int .i64 (e : Int), .int .i64 0]) (results4 4 5 6 7 rfl _ _ _ _ rfl rfl rfl rfl) rfl ?_
          exact ⟨HBR.out, a, g, e, 0, rfl, .inr ⟨a, g, e, HBE.out, rfl, rfl, rfl, rfl⟩⟩
end Go.Proofs.Ytjpbndpfbdfhjaa.Seek
