/-
  The document's instructions (layer 9): Has, Same.
-/
import Derived.Test.YtjpbndpfbdfhjaaMNfaLast
import Derived.BigQuiet
namespace Go.Proofs.Ytjpbndpfbdfhjaa.Nfa
open Go.RowKit
open Go.Proofs.Ytjpbndpfbdfhjaa.Reg (Sp RSpn sflat sflat_length)
set_option linter.unusedVariables false
set_option linter.unusedSimpArgs false

theorem sflat_at {l : List Sp} {i k : Nat} {x : Sp} (hi : l[i]? = some x) (hk : k < 2) : (sflat l)[i * 2 + k]? = [v8 x.a, v8 x.b][k]? := Nfa.flat_at (fun x : Sp => [v8 x.a, v8 x.b]) 2 (fun _ => rfl) l i k x hi hk
theorem ry_two {t : TypeId} {w : World} {A : Option Addr} {l : List Sp} (h : Ry t w A (sflat l)) {i : Nat} {x : Sp} (hi : l[i]? = some x) : ∃ ad, A = some ad ∧ w.cell? (ad.add (i * 2)) = some (v8 x.a) ∧ w.cell? ⟨(ad.add (i * 2)).block, (ad.add (i * 2)).off + 1, none⟩ = some (v8 x.b) := by
  have e0 := sflat_at hi (k := 0) (by decide)
  have e1 := sflat_at hi (k := 1) (by decide)
  obtain ⟨ad, rfl, _, hc⟩ := h (fun q => by rw [q] at e0; simp at e0)
  exact ⟨ad, rfl, hc _ _ e0, by rw [add_at _ _ 1 (by decide)]; exact hc _ _ e1⟩
/-- Is a byte in a span? -/
def inSp (c : BitVec 8) (x : Sp) : Bool := decide (x.a.toNat ≤ c.toNat) && decide (c.toNat ≤ x.b.toNat)
def has (x : In) (c : BitVec 8) : Bool := (x.sp.any (inSp c)) != x.neg
theorem any_take {l : List Sp} {i : Nat} {x : Sp} (hi : l[i]? = some x) (f : Sp → Bool) : (l.take (i + 1)).any f = ((l.take i).any f || f x) := by
  rw [List.take_add_one, hi, List.any_append]
  simp

set_option maxRecDepth 100000 in
set_option maxHeartbeats 1000000 in
theorem rhas (w : World) (x : In) (A : Option Addr) (cap : Nat) (c : BitVec 8) (h : RSpn w A x.sp) (hn : x.sp.length ≤ 1000) :
    Calls Try.prog 34 #[.agg #[.int .i64 x.kind, .int .i64 x.x, .int .i64 x.y, .bool x.neg, .slice A x.sp.length cap], v8 c] w fun e w' => e = .returned (.bool (has x c)) ∧ Below w.heap.size w w' := by
  generalize hW : w.alloc (.cells #[.int .i64 x.kind, .int .i64 x.x, .int .i64 x.y, .bool x.neg, .slice A x.sp.length cap] 59) = W
  have hc : Cel W w.heap.size 59 [.int .i64 x.kind, .int .i64 x.x, .int .i64 x.y, .bool x.neg, .slice A x.sp.length cap] := by rw [← hW]; exact Cel.new w _ _
  have hb : Below w.heap.size w W := by rw [← hW]; exact (Below.refl _ _).alloc (Nat.le_refl _) _
  have H := Lib.hid (Ry.below h hb)
  have HB := Lib.hid hb
  have HX := Lib.hid (show has x c = ((x.sp.any (inSp c)) != x.neg) from rfl)
  have c3 := hc.cell 3
  have c4 := hc.cell 4
  generalize x.sp = l at *
  generalize x.neg = neg at *
  generalize hll : l.length = n at *
  have HL := Lib.hid hll
  clear h hb hc hll
  go_enter Try.func34, Try.ntmps34
  go_wp2_with fail
  clear hW
  go_loopw [5, 6] (fun v5 v6 wr => ∃ (i : Nat) (r : Bool), i ≤ n ∧ v6 = .int .i64 (i : Int) ∧ v5 = .bool r ∧ (l.take i).any (inSp c) = r ∧ wr = W) (fun _ v6 _ => n - (intOf v6).toNat)
  case atStart => exact ⟨0, false, Nat.zero_le _, rfl, rfl, by simp, rfl⟩
  case round =>
    obtain ⟨i, r, hi, rfl, rfl, hr, rfl⟩ := hrel
    have HR := Lib.hid hr
    clear hr
    rcases Nat.lt_or_ge i n with hlt | hge
    · obtain ⟨s, hs⟩ : ∃ s, l[i]? = some s := ⟨_, List.getElem?_eq_getElem (by rw [HL.out]; exact hlt)⟩
      obtain ⟨ad, rfl, k0, k1⟩ := ry_two H.out hs
      have HN := Lib.hid (show (l.take (i + 1)).any (inSp c) = (r || (decide (s.a.toNat ≤ c.toNat) && decide (c.toNat ≤ s.b.toNat))) by rw [any_take hs, HR.out]; rfl)
      clear hs
      cases r
      · by_cases h1 : s.a.toNat ≤ c.toNat
        · by_cases h2 : c.toNat ≤ s.b.toNat
          · have HN2 := Lib.hid (show (l.take (i + 1)).any (inSp c) = true by rw [HN.out, decide_eq_true h1, decide_eq_true h2]; rfl)
            go_wp2_with fail
            exact ⟨⟨i + 1, true, by omega, by rw [show ((i + 1 : Nat) : Int) = (i : Int) + 1 by omega], rfl, HN2.out, by simp⟩, by simp [intOf]; omega⟩
          · have HN2 := Lib.hid (show (l.take (i + 1)).any (inSp c) = false by rw [HN.out, decide_eq_true h1, decide_eq_false h2]; rfl)
            go_wp2_with fail
            exact ⟨⟨i + 1, false, by omega, by rw [show ((i + 1 : Nat) : Int) = (i : Int) + 1 by omega], rfl, HN2.out, by simp⟩, by simp [intOf]; omega⟩
        · have HN2 := Lib.hid (show (l.take (i + 1)).any (inSp c) = false by rw [HN.out, decide_eq_false h1]; rfl)
          go_wp2_with fail
          exact ⟨⟨i + 1, false, by omega, by rw [show ((i + 1 : Nat) : Int) = (i : Int) + 1 by omega], rfl, HN2.out, by simp⟩, by simp [intOf]; omega⟩
      · have HN2 := Lib.hid (show (l.take (i + 1)).any (inSp c) = true by rw [HN.out]; rfl)
        go_wp2_with fail
        exact ⟨⟨i + 1, true, by omega, by rw [show ((i + 1 : Nat) : Int) = (i : Int) + 1 by omega], rfl, HN2.out, by simp⟩, by simp [intOf]; omega⟩
    · obtain rfl : i = n := by omega
      have HR2 := Lib.hid (show l.any (inSp c) = r by have := HR.out; rwa [List.take_of_length_le (by rw [HL.out]; exact Nat.le_refl _)] at this)
      clear hge
      cases r <;> cases neg
      all_goals
        go_wp2_with fail
        go_ret
        rw [HX.out, HR2.out]
        exact ⟨rfl, HB.out⟩

/-- The cells of an instruction in a row. -/
theorem ry_five {t : TypeId} {w : World} {A : Option Addr} {us : List Iv} (h : Ry t w A (iflat us)) {i : Nat} {u : Iv} (hi : us[i]? = some u) : ∃ ad, A = some ad ∧ w.cell? (ad.add (i * 5)) = some (.int .i64 u.i.kind) ∧
    w.cell? ⟨(ad.add (i * 5)).block, (ad.add (i * 5)).off + 1, none⟩ = some (.int .i64 u.i.x) ∧ w.cell? ⟨(ad.add (i * 5)).block, (ad.add (i * 5)).off + 2, none⟩ = some (.int .i64 u.i.y) ∧ w.cell? ⟨(ad.add (i * 5)).block, (ad.add (i * 5)).off + 3, none⟩ = some (.bool u.i.neg) ∧
    w.cell? ⟨(ad.add (i * 5)).block, (ad.add (i * 5)).off + 4, none⟩ = some (.slice u.A u.i.sp.length u.c) := by
  have e : ∀ k, k < 5 → (iflat us)[i * 5 + k]? = u.cells[k]? := fun k hk => Nfa.flat_at Iv.cells 5 (fun _ => rfl) us i k u hi hk
  obtain ⟨ad, rfl, _, hc⟩ := h (fun q => by have := e 0 (by decide); rw [q] at this; simp [Iv.cells] at this)
  exact ⟨ad, rfl, hc _ _ (e 0 (by decide)), by rw [add_at _ _ 1 (by decide)]; exact hc _ _ (e 1 (by decide)), by rw [add_at _ _ 2 (by decide)]; exact hc _ _ (e 2 (by decide)), by rw [add_at _ _ 3 (by decide)]; exact hc _ _ (e 3 (by decide)), by rw [add_at _ _ 4 (by decide)]; exact hc _ _ (e 4 (by decide))⟩
theorem below_drew {B : Nat} {w w' : World} (h : Below B w w') (m : Nat) : Below B w (w'.drewN m) := ⟨h.os, h.tape, h.output, h.size, h.block⟩
/-- Instructions that can be read. -/
structure Rr (w : World) (A : Option Addr) (us : List Iv) : Prop where
  ry : Ry 59 w A (iflat us)
  sp : ∀ u ∈ us, RSpn w u.A u.i.sp
theorem Ri.rr {w : World} {B n c : Nat} {A : Option Addr} {us : List Iv} (h : Ri w B A n c us) : Rr w A us := ⟨h.ry, h.sp⟩

set_option maxRecDepth 100000 in
set_option maxHeartbeats 2000000 in
theorem rsame (w : World) (A A' : Option Addr) (n c c' : Nat) (us vs : List Iv) (h : Rr w A us) (h' : Rr w A' vs) (hl : us.length = n) (hn : n ≤ 1000) (he : us.map (·.i) = vs.map (·.i)) (hsp : ∀ u ∈ us, u.i.sp.length ≤ 1000) :
    Calls Try.prog 10 #[.slice A n c, .slice A' n c'] w fun e w' => e = .returned (.bool true) ∧ Below w.heap.size w w' := by
  have H := Lib.hid h
  have H' := Lib.hid h'
  have HL := Lib.hid hl
  have HE := Lib.hid he
  have HSP := Lib.hid hsp
  clear h h' hl he hsp
  go_enter Try.func10, Try.ntmps10
  go_wp2_with fail
  go_loopw [5] (fun v5 wr => ∃ (i : Nat), i ≤ n ∧ v5 = .int .i64 (i : Int) ∧ Below w.heap.size w wr) (fun v5 _ => n - (intOf v5).toNat)
  case atStart => exact ⟨0, Nat.zero_le _, rfl, Below.refl _ _⟩
  case round =>
    obtain ⟨i, hi, rfl, hb⟩ := hrel
    rcases Nat.lt_or_ge i n with hlt | hge
    · obtain ⟨u, hu⟩ : ∃ u, us[i]? = some u := ⟨_, List.getElem?_eq_getElem (by rw [HL.out]; exact hlt)⟩
      have hlv : vs.length = n := by rw [← HL.out, ← List.length_map (f := (·.i)), ← HE.out, List.length_map]
      obtain ⟨v, hv⟩ : ∃ v, vs[i]? = some v := ⟨_, List.getElem?_eq_getElem (by omega)⟩
      have huv : u.i = v.i := by
        have e1 : (us.map (·.i))[i]? = some u.i := by rw [List.getElem?_map, hu]; rfl
        rw [HE.out, List.getElem?_map, hv] at e1
        injection e1 with e1
        exact e1.symm
      obtain ⟨ad, rfl, k0, k1, k2, k3, k4⟩ := ry_five (Ry.below H.out.ry hb) hu
      obtain ⟨ad', rfl, j0, j1, j2, j3, j4⟩ := ry_five (Ry.below H'.out.ry hb) hv
      have HSU := Lib.hid (H.out.sp u (List.mem_of_getElem? hu))
      have HSV := Lib.hid (show Ry 61 w v.A (sflat u.i.sp) by rw [huv]; exact H'.out.sp v (List.mem_of_getElem? hv))
      have hsu := HSP.out u (List.mem_of_getElem? hu)
      rw [← huv] at j0 j1 j2 j3 j4
      have HB := Lib.hid hb
      have KI := Lib.hid (fun (wi : World) (hbi : Below w.heap.size w wi) => (show wi.cell? ⟨(ad.add (i * 5)).block, (ad.add (i * 5)).off + 4, none⟩ = some (.slice u.A u.i.sp.length u.c) ∧ wi.cell? ⟨(ad'.add (i * 5)).block, (ad'.add (i * 5)).off + 4, none⟩ = some (.slice v.A u.i.sp.length v.c) from by
        obtain ⟨a1, e1, _, _, _, _, q1⟩ := ry_five (Ry.below H.out.ry hbi) hu
        obtain ⟨a2, e2, _, _, _, _, q2⟩ := ry_five (Ry.below H'.out.ry hbi) hv
        cases e1; cases e2
        rw [← huv] at q2
        exact ⟨q1, q2⟩))
      clear hu hv huv hlv hb
      obtain ⟨⟨vkd, vx, vy, vng, vl⟩, vA, vc⟩ := v
      obtain ⟨⟨kd, x, y, ng, l⟩, uA, uc⟩ := u
      dsimp only at *
      generalize hll : l.length = m at *
      have HLL := Lib.hid hll
      clear hll
      cases ng
      all_goals
        go_wp2_with fail
        go_quiet (fail)
        go_wp2_with fail
        obtain ⟨W0, rfl⟩ : ∃ W0, W0 = wr := ⟨_, rfl⟩
        go_loopw [6] (fun v6 wi => ∃ (j : Nat), j ≤ m ∧ v6 = .int .i64 (j : Int) ∧ Below w.heap.size w wi) (fun v6 _ => m - (intOf v6).toNat)
        case atStart => exact ⟨0, Nat.zero_le _, rfl, below_drew HB.out nq⟩
        case round =>
          obtain ⟨j, hj, rfl, hbi⟩ := hrel
          obtain ⟨i4, l4⟩ := KI.out wr hbi
          rcases Nat.lt_or_ge j m with hjm | hjm
          · obtain ⟨x0, hx0⟩ : ∃ x0, l[j]? = some x0 := ⟨_, List.getElem?_eq_getElem (by rw [HLL.out]; exact hjm)⟩
            obtain ⟨sa, rfl, s0, s1⟩ := ry_two (Ry.below HSU.out hbi) hx0
            obtain ⟨ta, rfl, t0, t1⟩ := ry_two (Ry.below HSV.out hbi) hx0
            have HBI := Lib.hid hbi
            clear hbi hx0
            go_wp2_with fail
            go_quiet (fail)
            go_wp2_with fail
            exact ⟨⟨j + 1, by omega, by rw [show ((j + 1 : Nat) : Int) = (j : Int) + 1 by omega], below_drew HBI.out nq⟩, by simp [intOf]; omega⟩
          · obtain rfl : j = m := by omega
            have HBI := Lib.hid hbi
            clear hbi hjm
            go_wp2_with fail
            exact ⟨⟨i + 1, by omega, by rw [show ((i + 1 : Nat) : Int) = (i : Int) + 1 by omega], HBI.out⟩, by simp [intOf]; omega⟩
    · obtain rfl : i = n := by omega
      have HB := Lib.hid hb
      clear hge hb
      go_wp2_with fail
      go_ret
      exact ⟨rfl, HB.out⟩
end Go.Proofs.Ytjpbndpfbdfhjaa.Nfa
