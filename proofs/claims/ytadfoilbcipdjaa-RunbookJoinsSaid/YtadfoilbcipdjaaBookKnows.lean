/-
  What the examples of layer 12's statements ask (knows); where steps begin.
-/
import Derived.Test.YtadfoilbcipdjaaBookTop
import Derived.Lib.SlBytesConst
namespace Go.Proofs.Ytadfoilbcipdjaa.Book
open Go.RowKit
open Go.Proofs.Ytadfoilbcipdjaa.Lex (Tok Tk B cut Tv Tx tflat Cr cr_ry Ptk add_at4)
set_option linter.unusedVariables false
set_option linter.unusedSimpArgs false

/-- A step begins where a token begins; what is left is among the tokens. -/
def Ks (N : Nat) (F : T → Except T (Step × T)) : Prop := ∀ l s m, (∀ x ∈ l, x.at_ ≤ N) → F l = .ok (s, m) → s.at_ ≤ N ∧ ∀ x ∈ m, x.at_ ≤ N
def Ka (N : Nat) (F : T → Except T (Arm × T)) : Prop := ∀ l s m, (∀ x ∈ l, x.at_ ≤ N) → F l = .ok (s, m) → ∀ x ∈ m, x.at_ ≤ N
theorem ks_want {N : Nat} {c : T → Bool} {f : Tok → T → Except T (Step × T)} (h : ∀ x, Ks N (f x)) : Ks N (want c f) := fun l s m ha hl => by
  cases l with
  | nil => cases hl
  | cons x l =>
    unfold want at hl
    dsimp only at hl
    split at hl
    · exact h x l s m (fun y hy => ha y (List.mem_cons_of_mem _ hy)) hl
    · cases hl
theorem ks_may {N : Nat} {c : T → Bool} {f : Tok → T → Except T (Step × T)} {q : T → Except T (Step × T)} (hf : ∀ x, Ks N (f x)) (hg : Ks N q) : Ks N (may c f q) := fun l s m ha hl => by
  cases l with
  | nil => exact hg _ s m ha hl
  | cons x l =>
    unfold may at hl
    dsimp only at hl
    split at hl
    · exact hf x l s m (fun y hy => ha y (List.mem_cons_of_mem _ hy)) hl
    · exact hg _ s m ha hl
theorem ka_want {N : Nat} {c : T → Bool} {f : Tok → T → Except T (Arm × T)} (h : ∀ x, Ka N (f x)) : Ka N (want c f) := fun l s m ha hl => by
  cases l with
  | nil => cases hl
  | cons x l =>
    unfold want at hl
    dsimp only at hl
    split at hl
    · exact h x l s m (fun y hy => ha y (List.mem_cons_of_mem _ hy)) hl
    · cases hl
theorem ka_may {N : Nat} {c : T → Bool} {f : Tok → T → Except T (Arm × T)} {q : T → Except T (Arm × T)} (hf : ∀ x, Ka N (f x)) (hg : Ka N q) : Ka N (may c f q) := fun l s m ha hl => by
  cases l with
  | nil => exact hg _ s m ha hl
  | cons x l =>
    unfold may at hl
    dsimp only at hl
    split at hl
    · exact hf x l s m (fun y hy => ha y (List.mem_cons_of_mem _ hy)) hl
    · exact hg _ s m ha hl
theorem ka_ok {N : Nat} (a : Arm) : Ka N (fun m => (.ok (a, m) : Except T (Arm × T))) := fun l s m ha h => by injection h with h; injection h with h1 h2; subst h2; exact ha
theorem ks_ok {N : Nat} {a : Step} (h : a.at_ ≤ N) : Ks N (fun m => (.ok (a, m) : Except T (Step × T))) := fun l s m ha hl => by injection hl with hl; injection hl with h1 h2; subst h1; subst h2; exact ⟨h, ha⟩
theorem ka_armGo (N a : Nat) (p v : List B) : Ka N (armGo a p v) := ka_want fun _ => ka_want fun g => ka_ok _
theorem ka_arm (N a : Nat) : Ka N (armR a) := ka_want fun p => ka_may (fun _ => ka_want fun v => ka_armGo _ _ _ _) (ka_armGo _ _ _ _)
theorem ks_else {N : Nat} (x : Step) (h : x.at_ ≤ N) : Ks N (elseR x) := ks_want fun _ => ks_want fun w => ks_want fun _ => ks_ok h
theorem ks_tail {N : Nat} (x : Step) (h : x.at_ ≤ N) : Ks N (tailR x) := ks_want fun _ => ks_want fun n => ks_may (fun _ => ks_want fun k => ks_else _ h) (ks_else _ h)
theorem ks_arms {N : Nat} : ∀ (f : Nat) (x : Step), x.at_ ≤ N → Ks N (armsR f x)
  | 0, x, h => ks_tail x h
  | f + 1, x, h => ks_may (fun o l s m ha hl => by
      cases e : armR o.at_ l with
      | error z => rw [e] at hl; cases hl
      | ok q =>
        obtain ⟨a1, m2⟩ := q
        rw [e] at hl
        exact ks_arms f { x with arms := x.arms ++ [a1] } h m2 s m (ka_arm N _ l a1 m2 ha e) hl) (ks_tail x h)
theorem ks_send {N : Nat} (f : Nat) (x : Step) (h : x.at_ ≤ N) : Ks N (sendR f x) := ks_may (fun _ => ks_want fun t => ks_arms f _ h) (ks_arms f x h)
theorem ks_step {N : Nat} (f a : Nat) (h : a ≤ N) : Ks N (stepR f a) := ks_want fun n => ks_may (fun _ => ks_send f _ h) (ks_may (fun _ => ks_send f _ h) (ks_send f _ h))
theorem ks_steps {N : Nat} : ∀ (f : Nat) (l : T) (ss : List Step), (∀ x ∈ l, x.at_ ≤ N) → stepsR f l = .ok ss → ∀ s ∈ ss, s.at_ ≤ N
  | 0, l, ss, ha, h => by injection h with h; subst h; simp
  | f + 1, [], ss, ha, h => by rw [stepsR_nil] at h; injection h with h; subst h; simp
  | f + 1, x :: m, ss, ha, h => by
    cases hw : wd wStep (x :: m)
    · rw [stepsR_no hw] at h; cases h
    · cases hs : stepR 2001 x.at_ m with
      | error e => rw [stepsR_bad hw hs] at h; cases h
      | ok q =>
        obtain ⟨s, m2⟩ := q
        obtain ⟨h1, h2⟩ := ks_step 2001 x.at_ (ha x (List.mem_cons_self ..)) m s m2 (fun y hy => ha y (List.mem_cons_of_mem _ hy)) hs
        rw [stepsR_go hw hs] at h
        cases e : stepsR f m2 with
        | error z => rw [e] at h; cases h
        | ok ss2 =>
          rw [e] at h
          simp only [sadd, List.singleton_append] at h
          injection h with h
          subst h
          intro u hu
          rcases List.mem_cons.1 hu with rfl | hu
          · exact h1
          · exact ks_steps f m2 ss2 h2 e u hu
theorem ks_book {N : Nat} {l : T} {b : Book} (ha : ∀ x ∈ l, x.at_ ≤ N) (h : bookR l = .ok b) : ∀ s ∈ b.steps, s.at_ ≤ N := by
  cases l with
  | nil => injection h with h; subst h; simp
  | cons x m =>
    unfold bookR at h
    dsimp only at h
    split at h
    · cases m with
      | nil => cases h
      | cons y m2 =>
        dsimp only at h
        split at h
        · cases e : stepsR (m2.length + 1) m2 with
          | error z => rw [e] at h; cases h
          | ok ss =>
            rw [e] at h
            injection h with h
            subst h
            exact ks_steps _ m2 ss (fun u hu => ha u (List.mem_cons_of_mem _ (List.mem_cons_of_mem _ hu))) e
        · cases h
    · cases e : stepsR ((x :: m).length + 1) (x :: m) with
      | error z => rw [e] at h; cases h
      | ok ss =>
        rw [e] at h
        injection h with h
        subst h
        exact ks_steps _ _ ss ha e
/-- A step begins within the text. -/
theorem at_le {s : List B} {b : Book} (h : bookOf s = .ok b) : ∀ x ∈ b.steps, x.at_ ≤ s.length := by
  obtain ⟨l, h1, h2⟩ := book_of h
  refine ks_book (fun x hx => ?_) h2
  obtain ⟨i, hi⟩ := List.getElem?_of_mem hx
  have h4 := (Lex.cut_alone h1).2 i x hi
  omega
def k44 : List (BitVec 8) := [115#8, 116#8, 101#8, 112#8, 32#8, 97#8, 32#8, 111#8, 110#8, 32#8, 34#8, 120#8, 34#8, 32#8, 103#8, 111#8, 32#8, 100#8, 111#8, 110#8, 101#8, 32#8, 119#8, 105#8, 116#8, 104#8, 105#8, 110#8, 32#8, 53#8, 32#8, 101#8, 108#8, 115#8, 101#8, 32#8, 102#8, 97#8, 105#8, 108#8, 32#8, 101#8, 110#8, 100#8]
def k10 : List (BitVec 8) := [115#8, 116#8, 101#8, 112#8, 32#8, 97#8, 32#8, 101#8, 110#8, 100#8]
def step44 : Step := ⟨0, [97#8], 0, false, [], [⟨7, [120#8], [], [100#8, 111#8, 110#8, 101#8]⟩], 5, 0, [102#8, 97#8, 105#8, 108#8]⟩
theorem book_k44 : bookOf k44 = .ok ⟨100, [step44]⟩ := by kernel_rfl
theorem book_k10 : bookOf k10 = .error (7, 2) := by kernel_rfl
theorem flat_get {α : Type} (f : α → List Value) (m : Nat) (hm : ∀ x, (f x).length = m) : ∀ (vs : List α) (i k : Nat) (v : α), vs[i]? = some v → k < m → (vs.flatMap f)[i * m + k]? = (f v)[k]?
  | [], _, _, _, h, _ => by simp at h
  | u :: us, 0, k, v, h, hk => by
    simp at h
    subst h
    rw [List.flatMap_cons, List.getElem?_append_left (by rw [hm]; omega), Nat.zero_mul, Nat.zero_add]
  | u :: us, i + 1, k, v, h, hk => by
    have h1 := flat_get f m hm us i k v (by simpa using h) hk
    rw [List.flatMap_cons, List.getElem?_append_right (by rw [hm]; have := Nat.le_add_left m (i * m); rw [Nat.succ_mul]; omega), hm, ← h1]
    congr 1
    rw [Nat.succ_mul]; omega
/-- A cell of a step, of an arm. -/
theorem Pbk.cell {w : World} {A : Option Addr} {vs : List Bv} (h : Pbk w A vs) {i : Nat} {v : Bv} (hi : vs[i]? = some v) : ∃ ad, A = some ad ∧ ∀ k u, v.cells[k]? = some u → w.cell? (ad.add (i * 9 + k)) = some u := by
  have e : ∀ k, k < 9 → (s9flat vs)[i * 9 + k]? = v.cells[k]? := fun k hk => flat_get Bv.cells 9 (fun _ => rfl) vs i k v hi hk
  obtain ⟨ad, rfl, hc⟩ := h.ry (fun q => by have := e 0 (by decide); rw [q] at this; simp [Bv.cells, cells9] at this)
  refine ⟨ad, rfl, fun k u hu => hc _ _ ?_⟩
  rw [e k (by have := (List.getElem?_eq_some_iff.1 hu).1; exact this)]
  exact hu
theorem Pbk.acell {w : World} {A : Option Addr} {vs : List Bv} (h : Pbk w A vs) {v : Bv} (hv : v ∈ vs) {j : Nat} {a : Av} (hj : v.avs[j]? = some a) : ∃ ad, v.A5 = some ad ∧ ∀ k u, a.cells[k]? = some u → w.cell? (ad.add (j * 4 + k)) = some u := by
  have e : ∀ k, k < 4 → (aflat v.avs)[j * 4 + k]? = a.cells[k]? := fun k hk => flat_get Av.cells 4 (fun _ => rfl) v.avs j k a hj hk
  obtain ⟨ad, h5, hc⟩ := (h.arms v hv).1 (fun q => by have := e 0 (by decide); rw [q] at this; simp [Av.cells] at this)
  refine ⟨ad, h5, fun k u hu => hc _ _ ?_⟩
  rw [e k (by have := (List.getElem?_eq_some_iff.1 hu).1; exact this)]
  exact hu
theorem one_av {l : List Av} {x : Arm} (h : l.map (·.a) = [x]) : ∃ a, l = [a] ∧ a.a = x := by
  rcases l with _ | ⟨v0, _ | ⟨v1, l⟩⟩ <;> simp at h
  exact ⟨v0, rfl, h⟩
theorem add_k (ad : Addr) (k : Nat) (hk : 0 < k) : ad.add k = ⟨ad.block, ad.off + k, none⟩ := by unfold Addr.add; rw [if_neg (by omega)]
set_option maxRecDepth 100000 in
set_option maxHeartbeats 1000000 in
theorem knows12 (w : World) : Calls Try.prog 4 #[] w fun e w' => e = .returned (.bool true) ∧ Below w.heap.size w w' := by
  have kc := fun (w : World) (C : Array Value) (n c : Nat) => Lib.run_convert_bytes_const (P := Try.prog) w 22 5 C n c Try.underlying22 Try.underlying5
  go_enter Try.func4, Try.ntmps4
  go_wp2_with fail
  obtain ⟨W1, hW1⟩ : ∃ W1, W1 = w.alloc (.cells #[.int .u8 115, .int .u8 116, .int .u8 101, .int .u8 112, .int .u8 32, .int .u8 97, .int .u8 32, .int .u8 111, .int .u8 110, .int .u8 32, .int .u8 34, .int .u8 120, .int .u8 34, .int .u8 32, .int .u8 103, .int .u8 111, .int .u8 32, .int .u8 100, .int .u8 111, .int .u8 110, .int .u8 101, .int .u8 32, .int .u8 119, .int .u8 105, .int .u8 116, .int .u8 104, .int .u8 105, .int .u8 110, .int .u8 32, .int .u8 53, .int .u8 32, .int .u8 101, .int .u8 108, .int .u8 115, .int .u8 101, .int .u8 32, .int .u8 102, .int .u8 97, .int .u8 105, .int .u8 108, .int .u8 32, .int .u8 101, .int .u8 110, .int .u8 100] 5 (44, 45)) := ⟨_, rfl⟩
  have hb1 : Below w.heap.size w W1 := by rw [hW1]; exact (Below.refl _ _).alloc (Nat.le_refl _) _
  have b1 := Bs.lit w 5 (44, 45) #[.int .u8 115, .int .u8 116, .int .u8 101, .int .u8 112, .int .u8 32, .int .u8 97, .int .u8 32, .int .u8 111, .int .u8 110, .int .u8 32, .int .u8 34, .int .u8 120, .int .u8 34, .int .u8 32, .int .u8 103, .int .u8 111, .int .u8 32, .int .u8 100, .int .u8 111, .int .u8 110, .int .u8 101, .int .u8 32, .int .u8 119, .int .u8 105, .int .u8 116, .int .u8 104, .int .u8 105, .int .u8 110, .int .u8 32, .int .u8 53, .int .u8 32, .int .u8 101, .int .u8 108, .int .u8 115, .int .u8 101, .int .u8 32, .int .u8 102, .int .u8 97, .int .u8 105, .int .u8 108, .int .u8 32, .int .u8 101, .int .u8 110, .int .u8 100] k44 rfl 44 rfl
  have con := pparse W1 (w.heap.size + 1) (some ⟨w.heap.size, 0, none⟩) 44 44 k44 (by rw [hW1]; exact b1) (by rw [hW1]; simp) (by decide)
  rw [book_k44] at con
  rw [← hW1]
  refine con.mono ?_
  clear con b1 hW1
  rintro e w2 ⟨hb2, A, c, vs, rfl, hp, hvs, _⟩
  have HB2 := Lib.hid (hb1.trans (hb2.mono hb1.size))
  have HP := Lib.hid hp
  obtain ⟨v, rfl, hv⟩ : ∃ v, vs = [v] ∧ v.s = step44 := by
    rcases vs with _ | ⟨v0, _ | ⟨v1, l⟩⟩ <;> simp at hvs
    exact ⟨v0, rfl, hvs⟩
  have HV := Lib.hid hv
  clear hb1 hb2 hp hvs hv
  go_upto_region 2 with fail
  obtain ⟨W2, hW2⟩ : ∃ W2, W2 = w2.alloc (.cells #[.int .i64 100, .slice A 1 c] 26) := ⟨_, rfl⟩
  have hb2 : Below w2.heap.size w2 W2 := by rw [hW2]; exact (Below.refl _ _).alloc (Nat.le_refl _) _
  have HV2 := Lib.hid (show Cel W2 w2.heap.size 26 [.int .i64 100, .slice A 1 c] by rw [hW2]; exact Cel.new w2 _ _)
  have HP2 := Lib.hid (HP.out.below hb2)
  have HBW := Lib.hid (HB2.out.trans (hb2.mono HB2.out.size))
  rw [← hW2]
  clear hb2 hW2 HB2 HP
  generalize w2.heap.size = g at HV2 ⊢
  go_wp2_with fail
  obtain ⟨W3, hW3⟩ : ∃ W3, W3 = W2.alloc (.cells #[.int .u8 115, .int .u8 116, .int .u8 101, .int .u8 112, .int .u8 32, .int .u8 97, .int .u8 32, .int .u8 101, .int .u8 110, .int .u8 100] 5 (10, 11)) := ⟨_, rfl⟩
  have hb3 : Below W2.heap.size W2 W3 := by rw [hW3]; exact (Below.refl _ _).alloc (Nat.le_refl _) _
  have b3 := Bs.lit W2 5 (10, 11) #[.int .u8 115, .int .u8 116, .int .u8 101, .int .u8 112, .int .u8 32, .int .u8 97, .int .u8 32, .int .u8 101, .int .u8 110, .int .u8 100] k10 rfl 10 rfl
  have con := pparse W3 (W2.heap.size + 1) (some ⟨W2.heap.size, 0, none⟩) 10 10 k10 (by rw [hW3]; exact b3) (by rw [hW3]; simp) (by decide)
  rw [book_k10] at con
  rw [← hW3]
  refine con.mono ?_
  clear con b3 hW3
  rintro e w4 ⟨hb4, _, rfl⟩
  have hb34 := hb3.trans (hb4.mono hb3.size)
  have HB4 := Lib.hid (HBW.out.trans (hb34.mono HBW.out.size))
  have hp := HP2.out.below hb34
  have hv := (hb34.block _ HV2.out.lt).trans HV2.out
  have hv' : Cel w4 g 26 [.int .i64 100, .slice A 1 c] := hv
  have hgl := hv'.lt
  have k0 := hv'.cell 0
  have k1 := hv'.cell 1
  obtain ⟨ad, rfl, hc⟩ := hp.cell (i := 0) (v := v) rfl
  have hs := HV.out
  obtain ⟨a, ha, haa⟩ : ∃ a, v.avs = [a] ∧ a.a = ⟨7, [120#8], [], [100#8, 111#8, 110#8, 101#8]⟩ := by
    have h1 := (hp.arms v (by simp)).2
    rw [hs] at h1
    exact one_av h1
  obtain ⟨bd, h5, hd⟩ := hp.acell (v := v) (by simp) (j := 0) (a := a) (by rw [ha]; rfl)
  have q5 : w4.cell? ⟨ad.block, ad.off + 5, none⟩ = some (.slice (some bd) 1 v.c5) := by
    rw [← add_k ad 5 (by omega), show (5 : Nat) = 0 * 9 + 5 from rfl]
    refine hc 5 _ ?_
    show some (Value.slice v.A5 v.s.arms.length v.c5) = _
    rw [h5, hs]
    rfl
  have q3 : w4.cell? ⟨bd.block, bd.off + 3, none⟩ = some (.string ⟨#[100, 111, 110, 101]⟩) := by
    rw [← add_k bd 3 (by omega), show (3 : Nat) = 0 * 4 + 3 from rfl]
    refine hd 3 _ ?_
    show some (Value.string (str a.a.go)) = _
    rw [haa]
    rfl
  have l5 : ad.block < w4.heap.size := by have := cell_lt (p := ⟨ad.block, ad.off + 5, none⟩) q5; exact this
  have l3 : bd.block < w4.heap.size := by have := cell_lt (p := ⟨bd.block, bd.off + 3, none⟩) q3; exact this
  clear hp hv hv' hc hs ha haa h5 hd hb3 hb4 hb34 HP2 HBW HV HV2
  go_wp2_with fail
  go_ret
  exact ⟨rfl, HB4.out.trans (((Below.refl w4.heap.size w4).alloc (Nat.le_refl _) _).mono HB4.out.size)⟩
end Go.Proofs.Ytadfoilbcipdjaa.Book
