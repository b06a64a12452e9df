/-
  The document's tokens compared (layer 11), where they are alike.
-/
import Derived.Test.YtkodajkhekocbaaLexCut
import Derived.BigQuiet
namespace Go.Proofs.Ytkodajkhekocbaa.Lex
open Go.RowKit
set_option linter.unusedVariables false
set_option linter.unusedSimpArgs false

/-- The document's tokens, that can be read. -/
structure Ttk (w : World) (B : Nat) (A : Option Addr) (vs : List Tv) : Prop where
  ry : Ry 46 w A (tflat vs)
  tx : ∀ v ∈ vs, Tx w B v.A v.t.t.text
theorem Rtk.ttk {w : World} {D B n c : Nat} {A : Option Addr} {vs : List Tv} (h : Rtk w D B A n c vs) : Ttk w B A vs := ⟨Ry.of_own h.own (by decide), h.tx⟩
theorem Ttk.below {w w' : World} {B : Nat} {A : Option Addr} {vs : List Tv} (h : Ttk w B A vs) (hB : B ≤ w.heap.size) (hb : Below w.heap.size w w') : Ttk w' B A vs := ⟨h.ry.below hb, fun v hv => (h.tx v hv).below hB hb⟩
theorem flat4 : ∀ (vs : List Tv) (i k : Nat) (v : Tv), vs[i]? = some v → k < 4 → (tflat vs)[i * 4 + k]? = v.cells[k]?
  | [], _, _, _, h, _ => by simp at h
  | u :: us, 0, k, v, h, hk => by
    simp at h
    subst h
    rw [tflat, List.flatMap_cons, List.getElem?_append_left (by rw [Nat.zero_mul, Nat.zero_add]; exact hk), Nat.zero_mul, Nat.zero_add]
  | u :: us, i + 1, k, v, h, hk => by
    have h1 := flat4 us i k v (by simpa using h) hk
    rw [tflat, List.flatMap_cons, List.getElem?_append_right (by show 4 ≤ _; omega)]
    rw [← h1]
    show _ = (us.flatMap Tv.cells)[i * 4 + k]?
    congr 1
    show (i + 1) * 4 + k - 4 = _
    omega
theorem add_at4 (ad : Addr) (i k : Nat) (hk : 0 < k) : (⟨(ad.add i).block, (ad.add i).off + k, none⟩ : Addr) = ad.add (i + k) := by
  rw [← add_add]
  generalize ad.add i = q
  unfold Addr.add
  rw [if_neg (by omega)]
theorem Ttk.at_ {w : World} {B : Nat} {A : Option Addr} {vs : List Tv} (h : Ttk w B A vs) {i : Nat} {v : Tv} (hi : vs[i]? = some v) : ∃ ad, A = some ad ∧ w.cell? (ad.add (i * 4)) = some (.int .i64 v.t.t.kind) ∧
    w.cell? ⟨(ad.add (i * 4)).block, (ad.add (i * 4)).off + 1, none⟩ = some (.int .i64 (v.t.at_ : Int)) ∧ w.cell? ⟨(ad.add (i * 4)).block, (ad.add (i * 4)).off + 2, none⟩ = some (.int .i64 v.t.t.n) ∧ w.cell? ⟨(ad.add (i * 4)).block, (ad.add (i * 4)).off + 3, none⟩ = some (.slice v.A v.t.t.text.length v.c) := by
  have e : ∀ k, k < 4 → (tflat vs)[i * 4 + k]? = v.cells[k]? := fun k hk => flat4 vs i k v hi hk
  obtain ⟨ad, rfl, _, hc⟩ := h.ry (fun q => by have := e 0 (by decide); rw [q] at this; simp [Tv.cells] at this)
  exact ⟨ad, rfl, hc _ _ (e 0 (by decide)), by rw [add_at4 _ _ 1 (by decide)]; exact hc _ _ (e 1 (by decide)), by rw [add_at4 _ _ 2 (by decide)]; exact hc _ _ (e 2 (by decide)), by rw [add_at4 _ _ 3 (by decide)]; exact hc _ _ (e 3 (by decide))⟩
theorem lbelow_drew {B : Nat} {w w' : World} (h : Below B w w') (m : Nat) : Below B w (w'.drewN m) := ⟨h.os, h.tape, h.output, h.size, h.block⟩
theorem Tx.bs {w : World} {B : Nat} {A : Option Addr} {t : List (BitVec 8)} (h : Tx w B A t) (hB : B ≤ w.heap.size) : Bs w w.heap.size A t.length t := by
  rcases h with h | h
  · exact h.more hB
  · exact h.rd
theorem Tx.str {w : World} {B : Nat} {A : Option Addr} {t : List (BitVec 8)} (h : Tx w B A t) (hB : B ≤ w.heap.size) (c m : Nat) : (convert 22 9 (.slice A t.length c)).run Try.prog (w.drewN m) = .ok (.string (str t)) (w.drewN m) :=
  (Bs.bp ((h.bs hB).drewN m)).string c Try.underlying22 Try.underlying5 Try.underlying9
set_option maxRecDepth 100000 in
set_option maxHeartbeats 2000000 in
theorem same_ (w : World) (B : Nat) (A A' : Option Addr) (n c c' : Nat) (us vs : List Tv) (h : Ttk w B A us) (h' : Ttk w B A' vs) (hB : B ≤ w.heap.size) (hl : us.length = n) (hn : n ≤ 100000) (he : us.map (·.t) = vs.map (·.t)) :
    Calls Try.prog 8 #[.slice A n c, .slice A' n c'] w fun e w' => e = .returned (.bool true) ∧ Below w.heap.size w w' := by
  have H := Lib.hid h
  have H' := Lib.hid h'
  have HL := Lib.hid hl
  have HE := Lib.hid he
  clear h h' hl he
  go_enter Try.func8, Try.ntmps8
  go_wp2_with fail
  go_loopw [5] (fun v5 wr => ∃ (i : Nat), i ≤ n ∧ v5 = .int .i64 (i : Int) ∧ Below w.heap.size w wr) (fun v5 _ => n - (intOf v5).toNat)
  case atStart => exact ⟨0, Nat.zero_le _, rfl, Below.refl _ _⟩
  case round =>
    obtain ⟨i, hi, rfl, hb⟩ := hrel
    rcases Nat.lt_or_ge i n with hlt | hge
    · obtain ⟨u, hu⟩ : ∃ u, us[i]? = some u := ⟨_, List.getElem?_eq_getElem (by rw [HL.out]; exact hlt)⟩
      have hlv : vs.length = n := by rw [← HL.out, ← List.length_map (f := (·.t)), ← HE.out, List.length_map]
      obtain ⟨v, hv⟩ : ∃ v, vs[i]? = some v := ⟨_, List.getElem?_eq_getElem (by omega)⟩
      have huv : u.t = v.t := by
        have e1 : (us.map (·.t))[i]? = some u.t := by rw [List.getElem?_map, hu]; rfl
        rw [HE.out, List.getElem?_map, hv] at e1
        injection e1 with e1
        exact e1.symm
      have hU := H.out.below hB hb
      have hV := H'.out.below hB hb
      have hBr : B ≤ wr.heap.size := Nat.le_trans hB hb.size
      obtain ⟨ad, rfl, k0, k1, k2, k3⟩ := hU.at_ hu
      obtain ⟨ad', rfl, j0, j1, j2, j3⟩ := hV.at_ hv
      have s1 := (hU.tx u (List.mem_of_getElem? hu)).str hBr u.c
      have s2 := (hV.tx v (List.mem_of_getElem? hv)).str hBr v.c
      rw [← huv] at j0 j1 j2 j3 s2
      have HB := Lib.hid hb
      clear hu hv huv hlv hb hU hV
      obtain ⟨⟨⟨vk, vn, vt⟩, va⟩, vA, vc⟩ := v
      obtain ⟨⟨⟨uk, un, ut⟩, ua⟩, uA, uc⟩ := u
      dsimp only at *
      generalize hut : ut.length = ul at *
      generalize hstr : str ut = us' at *
      clear hut hstr
      go_wp2_with fail
      go_quiet (fail)
      go_wp2_with fail
      exact ⟨⟨i + 1, by omega, by rw [show ((i + 1 : Nat) : Int) = (i : Int) + 1 by omega], lbelow_drew HB.out nq⟩, by simp [intOf]; omega⟩
    · obtain rfl : i = n := by omega
      have HB := Lib.hid hb
      clear hb
      go_wp2_with fail
      go_ret
      exact ⟨rfl, HB.out⟩
end Go.Proofs.Ytkodajkhekocbaa.Lex
