/-
  Words for layer 3 (sector): parts as values, what lies where; what sector.isPart comes to.
  What sector.fields comes to: what stands ahead of the bytes 0. (Its walk is written out by wip/tools/gen_fields.py.)
  What sector.sumOf and sector.imageOf come to.
  What sector.parse comes to.
-/
import Derived.Test.YtdaknfepcbooeaaGreatMPure
import Derived.Test.YtdaknfepcbooeaaGreatMSectorLib
import Derived.Test.YtdaknfepcbooeaaGreatMCrcA
import Derived.Deep.RegionHeld3
import Derived.Deep.RegionWith
import Derived.Deep.RegionLaw
import Derived.Laws.CopyOwn
import Derived.Deep.WholeRow
import Derived.Deep.MidRow
section
namespace Go.Proofs.YtdaknfepcbooeaaGreat.Sector
open Go.RowKit Go.Proofs.YtdaknfepcbooeaaGreat.Pack
set_option linter.unusedVariables false

/-- A part as a value. -/
abbrev partV (e s : BitVec 32) (f : Int) (A : Option Addr) (n c : Nat) : Value := .agg #[v32 e, v32 s, .int .i64 f, .slice A n c]

theorem isPart_yes (e s : BitVec 32) (f : Int) (A : Option Addr) (n c : Nat) (w : World) (h : mayB f n = true) :
    Calls Tryz.prog 111 #[partV e s f A n c] w fun r w' => r = .returned (.bool true) ∧ Below w.heap.size w w' := by
  have d1 : decide (0 ≤ f) = true := by simp [mayB] at h ⊢; omega
  have d2 : decide (f ≤ 3) = true := by simp [mayB] at h ⊢; omega
  have d3 : decide ((n : Int) ≤ 493) = true := by simp [mayB] at h ⊢; omega
  clear h
  go_enter Tryz.func111, Tryz.ntmps111
  go_wp2_with fail
  go_ret
  exact ⟨rfl, (Below.refl _ _).alloc (Nat.le_refl _) _⟩
theorem isPart_no (e s : BitVec 32) (f : Int) (A : Option Addr) (n c : Nat) (w : World) (h : mayB f n = false) :
    Calls Tryz.prog 111 #[partV e s f A n c] w fun r w' => r = .returned (.bool false) ∧ Below w.heap.size w w' := by
  by_cases h1 : 0 ≤ f
  · have d1 : decide (0 ≤ f) = true := by simpa using h1
    by_cases h2 : f ≤ 3
    · have d2 : decide (f ≤ 3) = true := by simpa using h2
      have d3 : decide ((n : Int) ≤ 493) = false := by simp [mayB] at h ⊢; omega
      clear h h1 h2
      go_enter Tryz.func111, Tryz.ntmps111
      go_wp2_with fail
      go_ret
      exact ⟨rfl, (Below.refl _ _).alloc (Nat.le_refl _) _⟩
    · have d2 : decide (f ≤ 3) = false := by simpa using h2
      clear h h1 h2
      go_enter Tryz.func111, Tryz.ntmps111
      go_wp2_with fail
      go_ret
      exact ⟨rfl, (Below.refl _ _).alloc (Nat.le_refl _) _⟩
  · have d1 : decide (0 ≤ f) = false := by simpa using h1
    clear h h1
    go_enter Tryz.func111, Tryz.ntmps111
    go_wp2_with fail
    go_ret
    exact ⟨rfl, (Below.refl _ _).alloc (Nat.le_refl _) _⟩

theorem wide (r : BitVec 32) : (r.toNat : Int) = ((r.setWidth 64).toNat : Int) := by
  rw [BitVec.toNat_setWidth, Nat.mod_eq_of_lt (by have := r.isLt; omega)]

/-- '[]byte("..")' of a constant: the run-time's mark on its row. -/
def mkd (W : World) (a : Addr) : World := match W.shape? a.block with
  | some (_, n) => W.freeze { block := a.block, off := n } 1
  | none => W
theorem run_convert_self {P : Program} (W : World) (t e : TypeId) (a : Addr) (n c : Nat) (ht : P.underlying t = some (.slice e)) (he : P.underlying e = some (.int .u8)) :
    (convert t t (.slice (some a) n c)).run P W = .ok (.slice (some a) n c) (mkd W a) := by
  unfold mkd
  cases h : W.shape? a.block with
  | none => simp [convert, run_underlying ht, run_underlying he, markStringish, h]
  | some x => obtain ⟨x1, x2⟩ := x; simp [convert, run_underlying ht, run_underlying he, markStringish, h]
theorem heap_freeze (W : World) (a : Addr) (k : Nat) (h : k ≠ a.block) : (W.freeze a 1).heap[k]? = W.heap[k]? := by
  unfold World.freeze
  rw [if_neg (by decide)]
  show (W.heap.modify a.block _)[k]? = _
  rw [Array.getElem?_modify, if_neg (by omega)]
theorem cell_freeze (W : World) (a p : Addr) : (W.freeze a 1).cell? p = W.cell? p := by
  by_cases h : p.block = a.block
  · unfold World.cell? World.freeze
    rw [if_neg (by decide)]
    show (match (W.heap.modify a.block _)[p.block]? with | some (.cells c _ _) => _ | _ => _) = _
    rw [Array.getElem?_modify, if_pos h.symm]
    cases W.heap[p.block]? with
    | none => rfl
    | some o => cases o <;> rfl
  · exact World.cell?_of_block (heap_freeze W a p.block h)
theorem mkd_cell (W : World) (a p : Addr) : (mkd W a).cell? p = W.cell? p := by
  unfold mkd; split
  · exact cell_freeze _ _ _
  · rfl
theorem mkd_size (W : World) (a : Addr) : (mkd W a).heap.size = W.heap.size := by
  unfold mkd; split
  · simp [World.freeze]
  · rfl
theorem mkd_block (W : World) (a : Addr) (k : Nat) (h : k ≠ a.block) : (mkd W a).heap[k]? = W.heap[k]? := by
  unfold mkd; split
  · exact heap_freeze _ _ _ h
  · rfl
theorem mkd_os (W : World) (a : Addr) : (mkd W a).os = W.os ∧ (mkd W a).tape = W.tape ∧ (mkd W a).output = W.output := by
  unfold mkd; split
  · unfold World.freeze; rw [if_neg (by decide)]; exact ⟨rfl, rfl, rfl⟩
  · exact ⟨rfl, rfl, rfl⟩

/-- W is w0, and more. -/
def From (w0 W : World) : Prop := Below w0.heap.size w0 W
theorem From.self (w0 : World) : From w0 w0 := Below.refl _ _
theorem From.drew {w0 W : World} (h : From w0 W) : From w0 W.drew := Below.drew h
theorem From.alloc {w0 W : World} (o : Obj) (h : From w0 W) : From w0 (W.alloc o) := Below.alloc h h.size o
theorem From.call {w0 W W' : World} (h2 : Below W.heap.size W W') (h : From w0 W) : From w0 W' := Below.trans h (h2.mono h.size)
theorem From.mkd {w0 W : World} {a : Addr} (ha : w0.heap.size ≤ a.block) (h : From w0 W) : From w0 (mkd W a) :=
  Below.trans h ⟨(mkd_os W a).1, (mkd_os W a).2.1, (mkd_os W a).2.2, by rw [mkd_size]; exact Nat.le_refl _, fun k hk => mkd_block W a k (by omega)⟩
theorem From.size {w0 W : World} (h : From w0 W) : w0.heap.size ≤ W.heap.size := Below.size h

/-- The slice of bytes lies there. -/
def Lo (W : World) (A : Option Addr) (n : Nat) (bs : List (BitVec 8)) : Prop := Bs W W.heap.size A n bs
theorem Lo.own {W : World} {B : Nat} {A : Option Addr} {n c : Nat} {bs : List (BitVec 8)} (h : Own W B A n c bs) : Lo W A n bs := h.low
theorem Lo.drew {W : World} {A : Option Addr} {n : Nat} {bs : List (BitVec 8)} (h : Lo W A n bs) : Lo W.drew A n bs := h
theorem Lo.alloc {W : World} {A : Option Addr} {n : Nat} {bs : List (BitVec 8)} (o : Obj) (h : Lo W A n bs) : Lo (W.alloc o) A n bs := (Bs.alloc h (Nat.le_refl _) o).more (by simp)
theorem Lo.call {W W' : World} {A : Option Addr} {n : Nat} {bs : List (BitVec 8)} (h2 : Below W.heap.size W W') (h : Lo W A n bs) : Lo W' A n bs := (Bs.below h h2).more h2.size
theorem Lo.mkd {W : World} {A : Option Addr} {n : Nat} {bs : List (BitVec 8)} {a : Addr} (h : Lo W A n bs) : Lo (mkd W a) A n bs := by
  unfold Lo
  rw [mkd_size]
  exact Bs.keep h fun p _ => mkd_cell W a p
theorem Lo.lit (W : World) (T : TypeId) (cs : Array Value) (bs : List (BitVec 8)) (h : cs.toList = bs.map v8) (n : Nat) (hn : bs.length = n) : Lo (W.alloc (.cells cs T)) (some ⟨W.heap.size, 0, none⟩) n bs := by
  have := Bs.lit W T (0, 0) cs bs h n hn
  unfold Lo
  simpa using this

theorem held {b : Nat} {w0 W : World} {x y z : Value} (c0 : w0.cell? ⟨b, 0, none⟩ = some x) (c1 : w0.cell? ⟨b, 1, none⟩ = some y) (c2 : w0.cell? ⟨b, 2, none⟩ = some z) (hb : b < w0.heap.size) (h : From w0 W) :
    From w0 W ∧ W.cell? ⟨b, 0, none⟩ = some x ∧ W.cell? ⟨b, 1, none⟩ = some y ∧ W.cell? ⟨b, 2, none⟩ = some z :=
  ⟨h, (Below.cell h (p := ⟨b, 0, none⟩) hb).trans c0, (Below.cell h (p := ⟨b, 1, none⟩) hb).trans c1, (Below.cell h (p := ⟨b, 2, none⟩) hb).trans c2⟩
theorem wideW (r : BitVec 32) : IntKind.u64.wrap (r.toNat : Int) = ((r.setWidth 64).toNat : Int) := by
  rw [IntKind.wrap_u64, BitVec.toNat_setWidth]
  have := r.isLt
  omega
theorem flagsW {f : Int} (h0 : 0 ≤ f) (h3 : f ≤ 3) : IntKind.u64.wrap f = ((BitVec.ofInt 64 f).toNat : Int) := by
  rw [flags_toNat h0 h3, IntKind.wrap_u64]; omega
theorem five {W : World} {B : Nat} {a b c d e : Sl} (h1 : Bs W B a.A a.n a.bs) (h2 : Bs W B b.A b.n b.bs) (h3 : Bs W B c.A c.n c.bs) (h4 : Bs W B d.A d.n d.bs) (h5 : Bs W B e.A e.n e.bs) :
    ∀ s ∈ [a, b, c, d, e], Bs W B s.A s.n s.bs := by
  intro s hs
  simp at hs
  rcases hs with rfl | rfl | rfl | rfl | rfl <;> assumption

end Go.Proofs.YtdaknfepcbooeaaGreat.Sector
end

section
namespace Go.Proofs.YtdaknfepcbooeaaGreat.Sector
open Go.RowKit Go.Proofs.YtdaknfepcbooeaaGreat.Pack
set_option linter.unusedVariables false
set_option linter.unusedSimpArgs false

theorem concat5 (g cap : Nat) (a b c d e : Sl) (w : World) (hc : Cel w g 44 [a.val, b.val, c.val, d.val, e.val]) (h1 : Lo w a.A a.n a.bs) (h2 : Lo w b.A b.n b.bs) (h3 : Lo w c.A c.n c.bs) (h4 : Lo w d.A d.n d.bs) (h5 : Lo w e.A e.n e.bs)
    (N : Nat) (hN : a.n + (b.n + (c.n + (d.n + e.n))) = N) (h0 : 0 < N ∧ N ≤ 1000000) :
    Calls Tryz.prog 145 #[.slice (some ⟨g, 0, none⟩) 5 cap] w fun r w' => ∃ A c', r = .returned (.slice A N c') ∧ Own w' w.heap.size A N c' (a.bs ++ (b.bs ++ (c.bs ++ (d.bs ++ e.bs)))) ∧ Below w.heap.size w w' := by
  have ht : tot [a, b, c, d, e] = N := by simp [tot]; omega
  have h := concat g w.heap.size cap [a, b, c, d, e] w hc (five h1 h2 h3 h4 h5) (Nat.le_refl _) (by omega) (by omega) (by simp)
  rw [ht] at h
  simpa [flat] using h
theorem fields_end {w w1 wC : World} {o : Obj} (h : Below (w.alloc o).heap.size (w.alloc o) w1) (hF : From w1 wC) : Below w.heap.size w wC :=
  (((Below.refl _ _).alloc (Nat.le_refl _) _).trans (h.mono (by simp))).trans (Below.mono hF (by have := h.size; simp at this; omega))

set_option maxRecDepth 100000 in
set_option maxHeartbeats 4000000 in
theorem fields_walk (p : Pt) (B : Nat) (A : Option Addr) (n c : Nat) (w : World) (hbs : Bs w B A n p.body) (hB : B ≤ w.heap.size) (hm : p.may = true) :
    Calls Tryz.prog 124 #[partV p.epoch p.seq p.flags A n c] w fun r w' => ∃ A' c', r = .returned (.slice A' (15 + n) c') ∧ Own w' w.heap.size A' (15 + n) c' (fields p) ∧ Below w.heap.size w w' := by
  have hn : n ≤ 493 := by have := may_body hm; rw [hbs.len] at this; exact this
  obtain ⟨hf0, hf3⟩ := may_flags hm
  have HB := Lib.hid hbs
  have HM := Lib.hid hm
  clear hbs hm
  obtain ⟨e, s, f, body⟩ := p
  simp only at hf0 hf3 HB
  have hcv := fun (W : World) (a : Addr) (n c : Nat) => run_convert_self (P := Tryz.prog) W 44 5 a n c Tryz.underlying44 Tryz.underlying5
  go_enter Tryz.func124, Tryz.ntmps124
  go_wp2_with fail
  refine (textOk B A n c body _ (HB.out.alloc hB _) (by simp; omega) (by omega)).mono ?_
  rintro r w1 ⟨A1, c1, rfl, ho1, hb1⟩
  have hcl := (Cel.new w 121 [v32 e, v32 s, .int .i64 f, .slice A n c]).below hb1 (by simp)
  have k0 := hcl.cell 0
  have k1 := hcl.cell 1
  have k2 := hcl.cell 2
  have hlt := hcl.lt
  have L1 := Lo.own ho1
  have HB1 := Lib.hid hb1
  clear hb1 ho1 hcl
  go_wp2_with fail
  refine wp_region_held_drew (S := fun w' => From w1 w' ∧ w'.cell? ⟨w.heap.size, 0, none⟩ = some (v32 e) ∧ w'.cell? ⟨w.heap.size, 1, none⟩ = some (v32 s) ∧ w'.cell? ⟨w.heap.size, 2, none⟩ = some (.int .i64 f)) (by kernel_rfl) (held k0 k1 k2 hlt (From.self _).drew) (fun hH => ?_)
  refine wpAnyH_take (i := 2) (v := .pointer (some ⟨w.heap.size, 0, none⟩)) rfl (by kernel_rfl) (by kernel_rfl) (by kernel_rfl) (fun _ _ _ h => h) (Or.inl ⟨by rfl, ?_⟩) hH ?_
  · intro W hS; obtain ⟨_, h0, h1, h2⟩ := hS; go_simp
  try simp only [Act.put, List.setIfInBounds_toArray, List.set_cons_zero, List.set_cons_succ, List.getElem_toArray, List.getElem_cons_succ, List.getElem_cons_zero]
  refine wpAnyH_take (i := 3) (v := v32 e) rfl (by kernel_rfl) (by kernel_rfl) (by kernel_rfl) (fun _ _ _ h => h) (Or.inl ⟨by rfl, ?_⟩) hH ?_
  · intro W hS; obtain ⟨_, h0, h1, h2⟩ := hS; go_simp
  try simp only [Act.put, List.setIfInBounds_toArray, List.set_cons_zero, List.set_cons_succ, List.getElem_toArray, List.getElem_cons_succ, List.getElem_cons_zero]
  refine wpAnyH_take (i := 4) (v := .int .u64 (IntKind.u64.wrap (e.toNat : Int))) rfl (by kernel_rfl) (by kernel_rfl) (by kernel_rfl) (fun _ _ _ h => h) (Or.inl ⟨by rfl, ?_⟩) hH ?_
  · intro W hS; obtain ⟨_, h0, h1, h2⟩ := hS; go_simp
  try simp only [Act.put, List.setIfInBounds_toArray, List.set_cons_zero, List.set_cons_succ, List.getElem_toArray, List.getElem_cons_succ, List.getElem_cons_zero]
  refine wpAnyH_take (i := 6) (v := .pointer (some ⟨w.heap.size, 1, none⟩)) rfl (by kernel_rfl) (by kernel_rfl) (by kernel_rfl) (fun _ _ _ h => h) (Or.inl ⟨by rfl, ?_⟩) hH ?_
  · intro W hS; obtain ⟨_, h0, h1, h2⟩ := hS; go_simp
  try simp only [Act.put, List.setIfInBounds_toArray, List.set_cons_zero, List.set_cons_succ, List.getElem_toArray, List.getElem_cons_succ, List.getElem_cons_zero]
  refine wpAnyH_take (i := 7) (v := v32 s) rfl (by kernel_rfl) (by kernel_rfl) (by kernel_rfl) (fun _ _ _ h => h) (Or.inl ⟨by rfl, ?_⟩) hH ?_
  · intro W hS; obtain ⟨_, h0, h1, h2⟩ := hS; go_simp
  try simp only [Act.put, List.setIfInBounds_toArray, List.set_cons_zero, List.set_cons_succ, List.getElem_toArray, List.getElem_cons_succ, List.getElem_cons_zero]
  refine wpAnyH_take (i := 8) (v := .int .u64 (IntKind.u64.wrap (s.toNat : Int))) rfl (by kernel_rfl) (by kernel_rfl) (by kernel_rfl) (fun _ _ _ h => h) (Or.inl ⟨by rfl, ?_⟩) hH ?_
  · intro W hS; obtain ⟨_, h0, h1, h2⟩ := hS; go_simp
  try simp only [Act.put, List.setIfInBounds_toArray, List.set_cons_zero, List.set_cons_succ, List.getElem_toArray, List.getElem_cons_succ, List.getElem_cons_zero]
  refine wpAnyH_take (i := 10) (v := .pointer (some ⟨w.heap.size, 2, none⟩)) rfl (by kernel_rfl) (by kernel_rfl) (by kernel_rfl) (fun _ _ _ h => h) (Or.inl ⟨by rfl, ?_⟩) hH ?_
  · intro W hS; obtain ⟨_, h0, h1, h2⟩ := hS; go_simp
  try simp only [Act.put, List.setIfInBounds_toArray, List.set_cons_zero, List.set_cons_succ, List.getElem_toArray, List.getElem_cons_succ, List.getElem_cons_zero]
  refine wpAnyH_take (i := 11) (v := .int .i64 f) rfl (by kernel_rfl) (by kernel_rfl) (by kernel_rfl) (fun _ _ _ h => h) (Or.inl ⟨by rfl, ?_⟩) hH ?_
  · intro W hS; obtain ⟨_, h0, h1, h2⟩ := hS; go_simp
  try simp only [Act.put, List.setIfInBounds_toArray, List.set_cons_zero, List.set_cons_succ, List.getElem_toArray, List.getElem_cons_succ, List.getElem_cons_zero]
  refine wpAnyH_take (i := 12) (v := .int .u64 (IntKind.u64.wrap f)) rfl (by kernel_rfl) (by kernel_rfl) (by kernel_rfl) (fun _ _ _ h => h) (Or.inl ⟨by rfl, ?_⟩) hH ?_
  · intro W hS; obtain ⟨_, h0, h1, h2⟩ := hS; go_simp
  try simp only [Act.put, List.setIfInBounds_toArray, List.set_cons_zero, List.set_cons_succ, List.getElem_toArray, List.getElem_cons_succ, List.getElem_cons_zero]
  refine wpAnyH_take (i := 14) (v := .slice A1 (2 + n) c1) rfl (by kernel_rfl) (by kernel_rfl) (by kernel_rfl) (fun _ _ _ h => h) (Or.inl ⟨by rfl, ?_⟩) hH ?_
  · intro W hS; obtain ⟨_, h0, h1, h2⟩ := hS; go_simp
  try simp only [Act.put, List.setIfInBounds_toArray, List.set_cons_zero, List.set_cons_succ, List.getElem_toArray, List.getElem_cons_succ, List.getElem_cons_zero]
  refine wpAnyH_ready (rs := [0, 5]) (by kernel_rfl) (by simp) (AllReadyH.cons rfl (fun K hK => ?_) (AllReadyH.cons rfl (fun K hK => ?_) AllReadyH.nil))
  · skip
    go_simp
    have hz := hH.1.size
    refine hK.out _ _ (held k0 k1 k2 hlt (hH.1.alloc _)) (fun hH' => ?_)
    have LM := Lo.drew (Lo.lit w1 5 #[v8 68#8, v8 86#8, v8 84#8, v8 49#8] mark rfl 4 rfl)
    replace L1 := Lo.drew (Lo.alloc (.cells #[v8 68#8, v8 86#8, v8 84#8, v8 49#8] 5) L1)
    clear hK K hH
    have hH := hH'
    clear hH'
    try simp only [Act.put, List.setIfInBounds_toArray, List.set_cons_zero, List.set_cons_succ, List.getElem_toArray, List.getElem_cons_succ, List.getElem_cons_zero]
    refine wpAnyH_ready (rs := [1, 5]) (by kernel_rfl) (by simp) (AllReadyH.cons rfl (fun K hK => ?_) (AllReadyH.cons rfl (fun K hK => ?_) AllReadyH.nil))
    · skip
      go_simp
      refine hK.out _ _ (held k0 k1 k2 hlt (From.mkd hz hH.1)) (fun hH' => ?_)
      replace L1 := Lo.mkd (a := ⟨w1.heap.size, 0, none⟩) L1
      replace LM := Lo.mkd (a := ⟨w1.heap.size, 0, none⟩) LM
      clear hK K hH
      have hH := hH'
      clear hH'
      try simp only [Act.put, List.setIfInBounds_toArray, List.set_cons_zero, List.set_cons_succ, List.getElem_toArray, List.getElem_cons_succ, List.getElem_cons_zero]
      refine wpAnyH_ready (rs := [5]) (by kernel_rfl) (by simp) (AllReadyH.cons rfl (fun K hK => ?_) AllReadyH.nil)
      go_simp
      refine (number_at (e.setWidth 64) 4 (by decide) (by decide) _ _ (wideW e) rfl _).mono ?_
      rintro r wE ⟨AE, cE, rfl, oE, bE⟩
      go_wp2_with fail
      refine hK.out _ _ (held k0 k1 k2 hlt (hH.1.call bE)) (fun hH' => ?_)
      replace L1 := Lo.call bE L1
      replace LM := Lo.call bE LM
      have LE := Lo.own oE
      clear hK K hH
      have hH := hH'
      clear hH'
      try simp only [Act.put, List.setIfInBounds_toArray, List.set_cons_zero, List.set_cons_succ, List.getElem_toArray, List.getElem_cons_succ, List.getElem_cons_zero]
      refine wpAnyH_ready (rs := [9]) (by kernel_rfl) (by simp) (AllReadyH.cons rfl (fun K hK => ?_) AllReadyH.nil)
      go_simp
      refine (number_at (s.setWidth 64) 4 (by decide) (by decide) _ _ (wideW s) rfl _).mono ?_
      rintro r wS ⟨AS, cS, rfl, oS, bS⟩
      go_wp2_with fail
      refine hK.out _ _ (held k0 k1 k2 hlt (hH.1.call bS)) (fun hH' => ?_)
      replace L1 := Lo.call bS L1
      replace LM := Lo.call bS LM
      replace LE := Lo.call bS LE
      have LS := Lo.own oS
      clear hK K hH
      have hH := hH'
      clear hH'
      try simp only [Act.put, List.setIfInBounds_toArray, List.set_cons_zero, List.set_cons_succ, List.getElem_toArray, List.getElem_cons_succ, List.getElem_cons_zero]
      refine wpAnyH_ready (rs := [13]) (by kernel_rfl) (by simp) (AllReadyH.cons rfl (fun K hK => ?_) AllReadyH.nil)
      go_simp
      refine (number_at (BitVec.ofInt 64 f) 1 (by decide) (by decide) _ _ (flagsW hf0 hf3) rfl _).mono ?_
      rintro r wF ⟨AF, cF, rfl, oF, bF⟩
      go_wp2_with fail
      refine hK.out _ _ (held k0 k1 k2 hlt (hH.1.call bF)) (fun hH' => ?_)
      replace L1 := Lo.call bF L1
      replace LM := Lo.call bF LM
      replace LE := Lo.call bF LE
      replace LS := Lo.call bF LS
      have LF := Lo.own oF
      clear hK K hH
      have hH := hH'
      clear hH'
      try simp only [Act.put, List.setIfInBounds_toArray, List.set_cons_zero, List.set_cons_succ, List.getElem_toArray, List.getElem_cons_succ, List.getElem_cons_zero]
      refine wpAnyH_ready (rs := [15]) (by kernel_rfl) (by simp) (AllReadyH.cons rfl (fun K hK => ?_) AllReadyH.nil)
      go_simp
      refine hK.out _ _ (held k0 k1 k2 hlt (hH.1.alloc _)) (fun hH' => ?_)
      clear hK K hH
      have hH := hH'
      clear hH'
      try simp only [Act.put, List.setIfInBounds_toArray, List.set_cons_zero, List.set_cons_succ, List.getElem_toArray, List.getElem_cons_succ, List.getElem_cons_zero]
      have hsz := hH.1.size
      refine wpAnyH_ready (rs := [16]) (by kernel_rfl) (by simp) (AllReadyH.cons rfl (fun K hK => ?_) AllReadyH.nil)
      go_simp
      refine (concat5 _ _ ⟨some ⟨w1.heap.size, 0, none⟩, 4, 4, mark⟩ ⟨AE, 4, cE, num 4 (e.setWidth 64)⟩ ⟨AS, 4, cS, num 4 (s.setWidth 64)⟩ ⟨AF, 1, cF, num 1 (BitVec.ofInt 64 f)⟩ ⟨A1, 2 + n, c1, text body⟩ _ (Cel.new _ _ _) (LM.alloc _) (LE.alloc _) (LS.alloc _) (LF.alloc _) (L1.alloc _) (15 + n) (by show 4 + (4 + (4 + (1 + (2 + n)))) = 15 + n; omega) (by omega)).mono ?_
      rintro r wC ⟨AC, cC, rfl, oC, bC⟩
      have OC := Lib.hid oC
      clear oC
      go_wp2_with fail
      refine hK.out _ _ (held k0 k1 k2 hlt (hH.1.call bC)) (fun hH' => ?_)
      clear hK K hH
      have hH := hH'
      clear hH'
      try simp only [Act.put, List.setIfInBounds_toArray, List.set_cons_zero, List.set_cons_succ, List.getElem_toArray, List.getElem_cons_succ, List.getElem_cons_zero]
      refine wpAnyH_ready (rs := [17]) (by kernel_rfl) (by simp) (AllReadyH.cons rfl (fun K hK => ?_) AllReadyH.nil)
      go_simp
      refine hK.out _ _ hH (fun _ => ?_)
      refine wpAnyH_done (by kernel_rfl) ?_ _
      clear hK K
      have hF := hH.1
      clear hH
      go_wp2_with fail
      go_ret
      exact ⟨AC, cC, rfl, OC.out.base (Nat.le_trans (Nat.le_of_lt hlt) hsz), fields_end HB1.out hF⟩
    · skip
      go_simp
      refine (number_at (e.setWidth 64) 4 (by decide) (by decide) _ _ (wideW e) rfl _).mono ?_
      rintro r wE ⟨AE, cE, rfl, oE, bE⟩
      go_wp2_with fail
      refine hK.out _ _ (held k0 k1 k2 hlt (hH.1.call bE)) (fun hH' => ?_)
      replace L1 := Lo.call bE L1
      replace LM := Lo.call bE LM
      have LE := Lo.own oE
      clear hK K hH
      have hH := hH'
      clear hH'
      try simp only [Act.put, List.setIfInBounds_toArray, List.set_cons_zero, List.set_cons_succ, List.getElem_toArray, List.getElem_cons_succ, List.getElem_cons_zero]
      refine wpAnyH_ready (rs := [1, 9]) (by kernel_rfl) (by simp) (AllReadyH.cons rfl (fun K hK => ?_) (AllReadyH.cons rfl (fun K hK => ?_) AllReadyH.nil))
      · skip
        go_simp
        refine hK.out _ _ (held k0 k1 k2 hlt (From.mkd hz hH.1)) (fun hH' => ?_)
        replace L1 := Lo.mkd (a := ⟨w1.heap.size, 0, none⟩) L1
        replace LM := Lo.mkd (a := ⟨w1.heap.size, 0, none⟩) LM
        replace LE := Lo.mkd (a := ⟨w1.heap.size, 0, none⟩) LE
        clear hK K hH
        have hH := hH'
        clear hH'
        try simp only [Act.put, List.setIfInBounds_toArray, List.set_cons_zero, List.set_cons_succ, List.getElem_toArray, List.getElem_cons_succ, List.getElem_cons_zero]
        refine wpAnyH_ready (rs := [9]) (by kernel_rfl) (by simp) (AllReadyH.cons rfl (fun K hK => ?_) AllReadyH.nil)
        go_simp
        refine (number_at (s.setWidth 64) 4 (by decide) (by decide) _ _ (wideW s) rfl _).mono ?_
        rintro r wS ⟨AS, cS, rfl, oS, bS⟩
        go_wp2_with fail
        refine hK.out _ _ (held k0 k1 k2 hlt (hH.1.call bS)) (fun hH' => ?_)
        replace L1 := Lo.call bS L1
        replace LM := Lo.call bS LM
        replace LE := Lo.call bS LE
        have LS := Lo.own oS
        clear hK K hH
        have hH := hH'
        clear hH'
        try simp only [Act.put, List.setIfInBounds_toArray, List.set_cons_zero, List.set_cons_succ, List.getElem_toArray, List.getElem_cons_succ, List.getElem_cons_zero]
        refine wpAnyH_ready (rs := [13]) (by kernel_rfl) (by simp) (AllReadyH.cons rfl (fun K hK => ?_) AllReadyH.nil)
        go_simp
        refine (number_at (BitVec.ofInt 64 f) 1 (by decide) (by decide) _ _ (flagsW hf0 hf3) rfl _).mono ?_
        rintro r wF ⟨AF, cF, rfl, oF, bF⟩
        go_wp2_with fail
        refine hK.out _ _ (held k0 k1 k2 hlt (hH.1.call bF)) (fun hH' => ?_)
        replace L1 := Lo.call bF L1
        replace LM := Lo.call bF LM
        replace LE := Lo.call bF LE
        replace LS := Lo.call bF LS
        have LF := Lo.own oF
        clear hK K hH
        have hH := hH'
        clear hH'
        try simp only [Act.put, List.setIfInBounds_toArray, List.set_cons_zero, List.set_cons_succ, List.getElem_toArray, List.getElem_cons_succ, List.getElem_cons_zero]
        refine wpAnyH_ready (rs := [15]) (by kernel_rfl) (by simp) (AllReadyH.cons rfl (fun K hK => ?_) AllReadyH.nil)
        go_simp
        refine hK.out _ _ (held k0 k1 k2 hlt (hH.1.alloc _)) (fun hH' => ?_)
        clear hK K hH
        have hH := hH'
        clear hH'
        try simp only [Act.put, List.setIfInBounds_toArray, List.set_cons_zero, List.set_cons_succ, List.getElem_toArray, List.getElem_cons_succ, List.getElem_cons_zero]
        have hsz := hH.1.size
        refine wpAnyH_ready (rs := [16]) (by kernel_rfl) (by simp) (AllReadyH.cons rfl (fun K hK => ?_) AllReadyH.nil)
        go_simp
        refine (concat5 _ _ ⟨some ⟨w1.heap.size, 0, none⟩, 4, 4, mark⟩ ⟨AE, 4, cE, num 4 (e.setWidth 64)⟩ ⟨AS, 4, cS, num 4 (s.setWidth 64)⟩ ⟨AF, 1, cF, num 1 (BitVec.ofInt 64 f)⟩ ⟨A1, 2 + n, c1, text body⟩ _ (Cel.new _ _ _) (LM.alloc _) (LE.alloc _) (LS.alloc _) (LF.alloc _) (L1.alloc _) (15 + n) (by show 4 + (4 + (4 + (1 + (2 + n)))) = 15 + n; omega) (by omega)).mono ?_
        rintro r wC ⟨AC, cC, rfl, oC, bC⟩
        have OC := Lib.hid oC
        clear oC
        go_wp2_with fail
        refine hK.out _ _ (held k0 k1 k2 hlt (hH.1.call bC)) (fun hH' => ?_)
        clear hK K hH
        have hH := hH'
        clear hH'
        try simp only [Act.put, List.setIfInBounds_toArray, List.set_cons_zero, List.set_cons_succ, List.getElem_toArray, List.getElem_cons_succ, List.getElem_cons_zero]
        refine wpAnyH_ready (rs := [17]) (by kernel_rfl) (by simp) (AllReadyH.cons rfl (fun K hK => ?_) AllReadyH.nil)
        go_simp
        refine hK.out _ _ hH (fun _ => ?_)
        refine wpAnyH_done (by kernel_rfl) ?_ _
        clear hK K
        have hF := hH.1
        clear hH
        go_wp2_with fail
        go_ret
        exact ⟨AC, cC, rfl, OC.out.base (Nat.le_trans (Nat.le_of_lt hlt) hsz), fields_end HB1.out hF⟩
      · skip
        go_simp
        refine (number_at (s.setWidth 64) 4 (by decide) (by decide) _ _ (wideW s) rfl _).mono ?_
        rintro r wS ⟨AS, cS, rfl, oS, bS⟩
        go_wp2_with fail
        refine hK.out _ _ (held k0 k1 k2 hlt (hH.1.call bS)) (fun hH' => ?_)
        replace L1 := Lo.call bS L1
        replace LM := Lo.call bS LM
        replace LE := Lo.call bS LE
        have LS := Lo.own oS
        clear hK K hH
        have hH := hH'
        clear hH'
        try simp only [Act.put, List.setIfInBounds_toArray, List.set_cons_zero, List.set_cons_succ, List.getElem_toArray, List.getElem_cons_succ, List.getElem_cons_zero]
        refine wpAnyH_ready (rs := [1, 13]) (by kernel_rfl) (by simp) (AllReadyH.cons rfl (fun K hK => ?_) (AllReadyH.cons rfl (fun K hK => ?_) AllReadyH.nil))
        · skip
          go_simp
          refine hK.out _ _ (held k0 k1 k2 hlt (From.mkd hz hH.1)) (fun hH' => ?_)
          replace L1 := Lo.mkd (a := ⟨w1.heap.size, 0, none⟩) L1
          replace LM := Lo.mkd (a := ⟨w1.heap.size, 0, none⟩) LM
          replace LE := Lo.mkd (a := ⟨w1.heap.size, 0, none⟩) LE
          replace LS := Lo.mkd (a := ⟨w1.heap.size, 0, none⟩) LS
          clear hK K hH
          have hH := hH'
          clear hH'
          try simp only [Act.put, List.setIfInBounds_toArray, List.set_cons_zero, List.set_cons_succ, List.getElem_toArray, List.getElem_cons_succ, List.getElem_cons_zero]
          refine wpAnyH_ready (rs := [13]) (by kernel_rfl) (by simp) (AllReadyH.cons rfl (fun K hK => ?_) AllReadyH.nil)
          go_simp
          refine (number_at (BitVec.ofInt 64 f) 1 (by decide) (by decide) _ _ (flagsW hf0 hf3) rfl _).mono ?_
          rintro r wF ⟨AF, cF, rfl, oF, bF⟩
          go_wp2_with fail
          refine hK.out _ _ (held k0 k1 k2 hlt (hH.1.call bF)) (fun hH' => ?_)
          replace L1 := Lo.call bF L1
          replace LM := Lo.call bF LM
          replace LE := Lo.call bF LE
          replace LS := Lo.call bF LS
          have LF := Lo.own oF
          clear hK K hH
          have hH := hH'
          clear hH'
          try simp only [Act.put, List.setIfInBounds_toArray, List.set_cons_zero, List.set_cons_succ, List.getElem_toArray, List.getElem_cons_succ, List.getElem_cons_zero]
          refine wpAnyH_ready (rs := [15]) (by kernel_rfl) (by simp) (AllReadyH.cons rfl (fun K hK => ?_) AllReadyH.nil)
          go_simp
          refine hK.out _ _ (held k0 k1 k2 hlt (hH.1.alloc _)) (fun hH' => ?_)
          clear hK K hH
          have hH := hH'
          clear hH'
          try simp only [Act.put, List.setIfInBounds_toArray, List.set_cons_zero, List.set_cons_succ, List.getElem_toArray, List.getElem_cons_succ, List.getElem_cons_zero]
          have hsz := hH.1.size
          refine wpAnyH_ready (rs := [16]) (by kernel_rfl) (by simp) (AllReadyH.cons rfl (fun K hK => ?_) AllReadyH.nil)
          go_simp
          refine (concat5 _ _ ⟨some ⟨w1.heap.size, 0, none⟩, 4, 4, mark⟩ ⟨AE, 4, cE, num 4 (e.setWidth 64)⟩ ⟨AS, 4, cS, num 4 (s.setWidth 64)⟩ ⟨AF, 1, cF, num 1 (BitVec.ofInt 64 f)⟩ ⟨A1, 2 + n, c1, text body⟩ _ (Cel.new _ _ _) (LM.alloc _) (LE.alloc _) (LS.alloc _) (LF.alloc _) (L1.alloc _) (15 + n) (by show 4 + (4 + (4 + (1 + (2 + n)))) = 15 + n; omega) (by omega)).mono ?_
          rintro r wC ⟨AC, cC, rfl, oC, bC⟩
          have OC := Lib.hid oC
          clear oC
          go_wp2_with fail
          refine hK.out _ _ (held k0 k1 k2 hlt (hH.1.call bC)) (fun hH' => ?_)
          clear hK K hH
          have hH := hH'
          clear hH'
          try simp only [Act.put, List.setIfInBounds_toArray, List.set_cons_zero, List.set_cons_succ, List.getElem_toArray, List.getElem_cons_succ, List.getElem_cons_zero]
          refine wpAnyH_ready (rs := [17]) (by kernel_rfl) (by simp) (AllReadyH.cons rfl (fun K hK => ?_) AllReadyH.nil)
          go_simp
          refine hK.out _ _ hH (fun _ => ?_)
          refine wpAnyH_done (by kernel_rfl) ?_ _
          clear hK K
          have hF := hH.1
          clear hH
          go_wp2_with fail
          go_ret
          exact ⟨AC, cC, rfl, OC.out.base (Nat.le_trans (Nat.le_of_lt hlt) hsz), fields_end HB1.out hF⟩
        · skip
          go_simp
          refine (number_at (BitVec.ofInt 64 f) 1 (by decide) (by decide) _ _ (flagsW hf0 hf3) rfl _).mono ?_
          rintro r wF ⟨AF, cF, rfl, oF, bF⟩
          go_wp2_with fail
          refine hK.out _ _ (held k0 k1 k2 hlt (hH.1.call bF)) (fun hH' => ?_)
          replace L1 := Lo.call bF L1
          replace LM := Lo.call bF LM
          replace LE := Lo.call bF LE
          replace LS := Lo.call bF LS
          have LF := Lo.own oF
          clear hK K hH
          have hH := hH'
          clear hH'
          try simp only [Act.put, List.setIfInBounds_toArray, List.set_cons_zero, List.set_cons_succ, List.getElem_toArray, List.getElem_cons_succ, List.getElem_cons_zero]
          refine wpAnyH_ready (rs := [1]) (by kernel_rfl) (by simp) (AllReadyH.cons rfl (fun K hK => ?_) AllReadyH.nil)
          go_simp
          refine hK.out _ _ (held k0 k1 k2 hlt (From.mkd hz hH.1)) (fun hH' => ?_)
          replace L1 := Lo.mkd (a := ⟨w1.heap.size, 0, none⟩) L1
          replace LM := Lo.mkd (a := ⟨w1.heap.size, 0, none⟩) LM
          replace LE := Lo.mkd (a := ⟨w1.heap.size, 0, none⟩) LE
          replace LS := Lo.mkd (a := ⟨w1.heap.size, 0, none⟩) LS
          replace LF := Lo.mkd (a := ⟨w1.heap.size, 0, none⟩) LF
          clear hK K hH
          have hH := hH'
          clear hH'
          try simp only [Act.put, List.setIfInBounds_toArray, List.set_cons_zero, List.set_cons_succ, List.getElem_toArray, List.getElem_cons_succ, List.getElem_cons_zero]
          refine wpAnyH_ready (rs := [15]) (by kernel_rfl) (by simp) (AllReadyH.cons rfl (fun K hK => ?_) AllReadyH.nil)
          go_simp
          refine hK.out _ _ (held k0 k1 k2 hlt (hH.1.alloc _)) (fun hH' => ?_)
          clear hK K hH
          have hH := hH'
          clear hH'
          try simp only [Act.put, List.setIfInBounds_toArray, List.set_cons_zero, List.set_cons_succ, List.getElem_toArray, List.getElem_cons_succ, List.getElem_cons_zero]
          have hsz := hH.1.size
          refine wpAnyH_ready (rs := [16]) (by kernel_rfl) (by simp) (AllReadyH.cons rfl (fun K hK => ?_) AllReadyH.nil)
          go_simp
          refine (concat5 _ _ ⟨some ⟨w1.heap.size, 0, none⟩, 4, 4, mark⟩ ⟨AE, 4, cE, num 4 (e.setWidth 64)⟩ ⟨AS, 4, cS, num 4 (s.setWidth 64)⟩ ⟨AF, 1, cF, num 1 (BitVec.ofInt 64 f)⟩ ⟨A1, 2 + n, c1, text body⟩ _ (Cel.new _ _ _) (LM.alloc _) (LE.alloc _) (LS.alloc _) (LF.alloc _) (L1.alloc _) (15 + n) (by show 4 + (4 + (4 + (1 + (2 + n)))) = 15 + n; omega) (by omega)).mono ?_
          rintro r wC ⟨AC, cC, rfl, oC, bC⟩
          have OC := Lib.hid oC
          clear oC
          go_wp2_with fail
          refine hK.out _ _ (held k0 k1 k2 hlt (hH.1.call bC)) (fun hH' => ?_)
          clear hK K hH
          have hH := hH'
          clear hH'
          try simp only [Act.put, List.setIfInBounds_toArray, List.set_cons_zero, List.set_cons_succ, List.getElem_toArray, List.getElem_cons_succ, List.getElem_cons_zero]
          refine wpAnyH_ready (rs := [17]) (by kernel_rfl) (by simp) (AllReadyH.cons rfl (fun K hK => ?_) AllReadyH.nil)
          go_simp
          refine hK.out _ _ hH (fun _ => ?_)
          refine wpAnyH_done (by kernel_rfl) ?_ _
          clear hK K
          have hF := hH.1
          clear hH
          go_wp2_with fail
          go_ret
          exact ⟨AC, cC, rfl, OC.out.base (Nat.le_trans (Nat.le_of_lt hlt) hsz), fields_end HB1.out hF⟩
  · skip
    go_simp
    refine (number_at (e.setWidth 64) 4 (by decide) (by decide) _ _ (wideW e) rfl _).mono ?_
    rintro r wE ⟨AE, cE, rfl, oE, bE⟩
    go_wp2_with fail
    refine hK.out _ _ (held k0 k1 k2 hlt (hH.1.call bE)) (fun hH' => ?_)
    replace L1 := Lo.call bE L1
    have LE := Lo.own oE
    clear hK K hH
    have hH := hH'
    clear hH'
    try simp only [Act.put, List.setIfInBounds_toArray, List.set_cons_zero, List.set_cons_succ, List.getElem_toArray, List.getElem_cons_succ, List.getElem_cons_zero]
    refine wpAnyH_ready (rs := [0, 9]) (by kernel_rfl) (by simp) (AllReadyH.cons rfl (fun K hK => ?_) (AllReadyH.cons rfl (fun K hK => ?_) AllReadyH.nil))
    · skip
      go_simp
      have hz := hH.1.size
      refine hK.out _ _ (held k0 k1 k2 hlt (hH.1.alloc _)) (fun hH' => ?_)
      have LM := (Lo.lit wE 5 #[v8 68#8, v8 86#8, v8 84#8, v8 49#8] mark rfl 4 rfl)
      replace L1 := (Lo.alloc (.cells #[v8 68#8, v8 86#8, v8 84#8, v8 49#8] 5) L1)
      replace LE := (Lo.alloc (.cells #[v8 68#8, v8 86#8, v8 84#8, v8 49#8] 5) LE)
      clear hK K hH
      have hH := hH'
      clear hH'
      try simp only [Act.put, List.setIfInBounds_toArray, List.set_cons_zero, List.set_cons_succ, List.getElem_toArray, List.getElem_cons_succ, List.getElem_cons_zero]
      refine wpAnyH_ready (rs := [1, 9]) (by kernel_rfl) (by simp) (AllReadyH.cons rfl (fun K hK => ?_) (AllReadyH.cons rfl (fun K hK => ?_) AllReadyH.nil))
      · skip
        go_simp
        refine hK.out _ _ (held k0 k1 k2 hlt (From.mkd hz hH.1)) (fun hH' => ?_)
        replace L1 := Lo.mkd (a := ⟨wE.heap.size, 0, none⟩) L1
        replace LM := Lo.mkd (a := ⟨wE.heap.size, 0, none⟩) LM
        replace LE := Lo.mkd (a := ⟨wE.heap.size, 0, none⟩) LE
        clear hK K hH
        have hH := hH'
        clear hH'
        try simp only [Act.put, List.setIfInBounds_toArray, List.set_cons_zero, List.set_cons_succ, List.getElem_toArray, List.getElem_cons_succ, List.getElem_cons_zero]
        refine wpAnyH_ready (rs := [9]) (by kernel_rfl) (by simp) (AllReadyH.cons rfl (fun K hK => ?_) AllReadyH.nil)
        go_simp
        refine (number_at (s.setWidth 64) 4 (by decide) (by decide) _ _ (wideW s) rfl _).mono ?_
        rintro r wS ⟨AS, cS, rfl, oS, bS⟩
        go_wp2_with fail
        refine hK.out _ _ (held k0 k1 k2 hlt (hH.1.call bS)) (fun hH' => ?_)
        replace L1 := Lo.call bS L1
        replace LM := Lo.call bS LM
        replace LE := Lo.call bS LE
        have LS := Lo.own oS
        clear hK K hH
        have hH := hH'
        clear hH'
        try simp only [Act.put, List.setIfInBounds_toArray, List.set_cons_zero, List.set_cons_succ, List.getElem_toArray, List.getElem_cons_succ, List.getElem_cons_zero]
        refine wpAnyH_ready (rs := [13]) (by kernel_rfl) (by simp) (AllReadyH.cons rfl (fun K hK => ?_) AllReadyH.nil)
        go_simp
        refine (number_at (BitVec.ofInt 64 f) 1 (by decide) (by decide) _ _ (flagsW hf0 hf3) rfl _).mono ?_
        rintro r wF ⟨AF, cF, rfl, oF, bF⟩
        go_wp2_with fail
        refine hK.out _ _ (held k0 k1 k2 hlt (hH.1.call bF)) (fun hH' => ?_)
        replace L1 := Lo.call bF L1
        replace LM := Lo.call bF LM
        replace LE := Lo.call bF LE
        replace LS := Lo.call bF LS
        have LF := Lo.own oF
        clear hK K hH
        have hH := hH'
        clear hH'
        try simp only [Act.put, List.setIfInBounds_toArray, List.set_cons_zero, List.set_cons_succ, List.getElem_toArray, List.getElem_cons_succ, List.getElem_cons_zero]
        refine wpAnyH_ready (rs := [15]) (by kernel_rfl) (by simp) (AllReadyH.cons rfl (fun K hK => ?_) AllReadyH.nil)
        go_simp
        refine hK.out _ _ (held k0 k1 k2 hlt (hH.1.alloc _)) (fun hH' => ?_)
        clear hK K hH
        have hH := hH'
        clear hH'
        try simp only [Act.put, List.setIfInBounds_toArray, List.set_cons_zero, List.set_cons_succ, List.getElem_toArray, List.getElem_cons_succ, List.getElem_cons_zero]
        have hsz := hH.1.size
        refine wpAnyH_ready (rs := [16]) (by kernel_rfl) (by simp) (AllReadyH.cons rfl (fun K hK => ?_) AllReadyH.nil)
        go_simp
        refine (concat5 _ _ ⟨some ⟨wE.heap.size, 0, none⟩, 4, 4, mark⟩ ⟨AE, 4, cE, num 4 (e.setWidth 64)⟩ ⟨AS, 4, cS, num 4 (s.setWidth 64)⟩ ⟨AF, 1, cF, num 1 (BitVec.ofInt 64 f)⟩ ⟨A1, 2 + n, c1, text body⟩ _ (Cel.new _ _ _) (LM.alloc _) (LE.alloc _) (LS.alloc _) (LF.alloc _) (L1.alloc _) (15 + n) (by show 4 + (4 + (4 + (1 + (2 + n)))) = 15 + n; omega) (by omega)).mono ?_
        rintro r wC ⟨AC, cC, rfl, oC, bC⟩
        have OC := Lib.hid oC
        clear oC
        go_wp2_with fail
        refine hK.out _ _ (held k0 k1 k2 hlt (hH.1.call bC)) (fun hH' => ?_)
        clear hK K hH
        have hH := hH'
        clear hH'
        try simp only [Act.put, List.setIfInBounds_toArray, List.set_cons_zero, List.set_cons_succ, List.getElem_toArray, List.getElem_cons_succ, List.getElem_cons_zero]
        refine wpAnyH_ready (rs := [17]) (by kernel_rfl) (by simp) (AllReadyH.cons rfl (fun K hK => ?_) AllReadyH.nil)
        go_simp
        refine hK.out _ _ hH (fun _ => ?_)
        refine wpAnyH_done (by kernel_rfl) ?_ _
        clear hK K
        have hF := hH.1
        clear hH
        go_wp2_with fail
        go_ret
        exact ⟨AC, cC, rfl, OC.out.base (Nat.le_trans (Nat.le_of_lt hlt) hsz), fields_end HB1.out hF⟩
      · skip
        go_simp
        refine (number_at (s.setWidth 64) 4 (by decide) (by decide) _ _ (wideW s) rfl _).mono ?_
        rintro r wS ⟨AS, cS, rfl, oS, bS⟩
        go_wp2_with fail
        refine hK.out _ _ (held k0 k1 k2 hlt (hH.1.call bS)) (fun hH' => ?_)
        replace L1 := Lo.call bS L1
        replace LM := Lo.call bS LM
        replace LE := Lo.call bS LE
        have LS := Lo.own oS
        clear hK K hH
        have hH := hH'
        clear hH'
        try simp only [Act.put, List.setIfInBounds_toArray, List.set_cons_zero, List.set_cons_succ, List.getElem_toArray, List.getElem_cons_succ, List.getElem_cons_zero]
        refine wpAnyH_ready (rs := [1, 13]) (by kernel_rfl) (by simp) (AllReadyH.cons rfl (fun K hK => ?_) (AllReadyH.cons rfl (fun K hK => ?_) AllReadyH.nil))
        · skip
          go_simp
          refine hK.out _ _ (held k0 k1 k2 hlt (From.mkd hz hH.1)) (fun hH' => ?_)
          replace L1 := Lo.mkd (a := ⟨wE.heap.size, 0, none⟩) L1
          replace LM := Lo.mkd (a := ⟨wE.heap.size, 0, none⟩) LM
          replace LE := Lo.mkd (a := ⟨wE.heap.size, 0, none⟩) LE
          replace LS := Lo.mkd (a := ⟨wE.heap.size, 0, none⟩) LS
          clear hK K hH
          have hH := hH'
          clear hH'
          try simp only [Act.put, List.setIfInBounds_toArray, List.set_cons_zero, List.set_cons_succ, List.getElem_toArray, List.getElem_cons_succ, List.getElem_cons_zero]
          refine wpAnyH_ready (rs := [13]) (by kernel_rfl) (by simp) (AllReadyH.cons rfl (fun K hK => ?_) AllReadyH.nil)
          go_simp
          refine (number_at (BitVec.ofInt 64 f) 1 (by decide) (by decide) _ _ (flagsW hf0 hf3) rfl _).mono ?_
          rintro r wF ⟨AF, cF, rfl, oF, bF⟩
          go_wp2_with fail
          refine hK.out _ _ (held k0 k1 k2 hlt (hH.1.call bF)) (fun hH' => ?_)
          replace L1 := Lo.call bF L1
          replace LM := Lo.call bF LM
          replace LE := Lo.call bF LE
          replace LS := Lo.call bF LS
          have LF := Lo.own oF
          clear hK K hH
          have hH := hH'
          clear hH'
          try simp only [Act.put, List.setIfInBounds_toArray, List.set_cons_zero, List.set_cons_succ, List.getElem_toArray, List.getElem_cons_succ, List.getElem_cons_zero]
          refine wpAnyH_ready (rs := [15]) (by kernel_rfl) (by simp) (AllReadyH.cons rfl (fun K hK => ?_) AllReadyH.nil)
          go_simp
          refine hK.out _ _ (held k0 k1 k2 hlt (hH.1.alloc _)) (fun hH' => ?_)
          clear hK K hH
          have hH := hH'
          clear hH'
          try simp only [Act.put, List.setIfInBounds_toArray, List.set_cons_zero, List.set_cons_succ, List.getElem_toArray, List.getElem_cons_succ, List.getElem_cons_zero]
          have hsz := hH.1.size
          refine wpAnyH_ready (rs := [16]) (by kernel_rfl) (by simp) (AllReadyH.cons rfl (fun K hK => ?_) AllReadyH.nil)
          go_simp
          refine (concat5 _ _ ⟨some ⟨wE.heap.size, 0, none⟩, 4, 4, mark⟩ ⟨AE, 4, cE, num 4 (e.setWidth 64)⟩ ⟨AS, 4, cS, num 4 (s.setWidth 64)⟩ ⟨AF, 1, cF, num 1 (BitVec.ofInt 64 f)⟩ ⟨A1, 2 + n, c1, text body⟩ _ (Cel.new _ _ _) (LM.alloc _) (LE.alloc _) (LS.alloc _) (LF.alloc _) (L1.alloc _) (15 + n) (by show 4 + (4 + (4 + (1 + (2 + n)))) = 15 + n; omega) (by omega)).mono ?_
          rintro r wC ⟨AC, cC, rfl, oC, bC⟩
          have OC := Lib.hid oC
          clear oC
          go_wp2_with fail
          refine hK.out _ _ (held k0 k1 k2 hlt (hH.1.call bC)) (fun hH' => ?_)
          clear hK K hH
          have hH := hH'
          clear hH'
          try simp only [Act.put, List.setIfInBounds_toArray, List.set_cons_zero, List.set_cons_succ, List.getElem_toArray, List.getElem_cons_succ, List.getElem_cons_zero]
          refine wpAnyH_ready (rs := [17]) (by kernel_rfl) (by simp) (AllReadyH.cons rfl (fun K hK => ?_) AllReadyH.nil)
          go_simp
          refine hK.out _ _ hH (fun _ => ?_)
          refine wpAnyH_done (by kernel_rfl) ?_ _
          clear hK K
          have hF := hH.1
          clear hH
          go_wp2_with fail
          go_ret
          exact ⟨AC, cC, rfl, OC.out.base (Nat.le_trans (Nat.le_of_lt hlt) hsz), fields_end HB1.out hF⟩
        · skip
          go_simp
          refine (number_at (BitVec.ofInt 64 f) 1 (by decide) (by decide) _ _ (flagsW hf0 hf3) rfl _).mono ?_
          rintro r wF ⟨AF, cF, rfl, oF, bF⟩
          go_wp2_with fail
          refine hK.out _ _ (held k0 k1 k2 hlt (hH.1.call bF)) (fun hH' => ?_)
          replace L1 := Lo.call bF L1
          replace LM := Lo.call bF LM
          replace LE := Lo.call bF LE
          replace LS := Lo.call bF LS
          have LF := Lo.own oF
          clear hK K hH
          have hH := hH'
          clear hH'
          try simp only [Act.put, List.setIfInBounds_toArray, List.set_cons_zero, List.set_cons_succ, List.getElem_toArray, List.getElem_cons_succ, List.getElem_cons_zero]
          refine wpAnyH_ready (rs := [1]) (by kernel_rfl) (by simp) (AllReadyH.cons rfl (fun K hK => ?_) AllReadyH.nil)
          go_simp
          refine hK.out _ _ (held k0 k1 k2 hlt (From.mkd hz hH.1)) (fun hH' => ?_)
          replace L1 := Lo.mkd (a := ⟨wE.heap.size, 0, none⟩) L1
          replace LM := Lo.mkd (a := ⟨wE.heap.size, 0, none⟩) LM
          replace LE := Lo.mkd (a := ⟨wE.heap.size, 0, none⟩) LE
          replace LS := Lo.mkd (a := ⟨wE.heap.size, 0, none⟩) LS
          replace LF := Lo.mkd (a := ⟨wE.heap.size, 0, none⟩) LF
          clear hK K hH
          have hH := hH'
          clear hH'
          try simp only [Act.put, List.setIfInBounds_toArray, List.set_cons_zero, List.set_cons_succ, List.getElem_toArray, List.getElem_cons_succ, List.getElem_cons_zero]
          refine wpAnyH_ready (rs := [15]) (by kernel_rfl) (by simp) (AllReadyH.cons rfl (fun K hK => ?_) AllReadyH.nil)
          go_simp
          refine hK.out _ _ (held k0 k1 k2 hlt (hH.1.alloc _)) (fun hH' => ?_)
          clear hK K hH
          have hH := hH'
          clear hH'
          try simp only [Act.put, List.setIfInBounds_toArray, List.set_cons_zero, List.set_cons_succ, List.getElem_toArray, List.getElem_cons_succ, List.getElem_cons_zero]
          have hsz := hH.1.size
          refine wpAnyH_ready (rs := [16]) (by kernel_rfl) (by simp) (AllReadyH.cons rfl (fun K hK => ?_) AllReadyH.nil)
          go_simp
          refine (concat5 _ _ ⟨some ⟨wE.heap.size, 0, none⟩, 4, 4, mark⟩ ⟨AE, 4, cE, num 4 (e.setWidth 64)⟩ ⟨AS, 4, cS, num 4 (s.setWidth 64)⟩ ⟨AF, 1, cF, num 1 (BitVec.ofInt 64 f)⟩ ⟨A1, 2 + n, c1, text body⟩ _ (Cel.new _ _ _) (LM.alloc _) (LE.alloc _) (LS.alloc _) (LF.alloc _) (L1.alloc _) (15 + n) (by show 4 + (4 + (4 + (1 + (2 + n)))) = 15 + n; omega) (by omega)).mono ?_
          rintro r wC ⟨AC, cC, rfl, oC, bC⟩
          have OC := Lib.hid oC
          clear oC
          go_wp2_with fail
          refine hK.out _ _ (held k0 k1 k2 hlt (hH.1.call bC)) (fun hH' => ?_)
          clear hK K hH
          have hH := hH'
          clear hH'
          try simp only [Act.put, List.setIfInBounds_toArray, List.set_cons_zero, List.set_cons_succ, List.getElem_toArray, List.getElem_cons_succ, List.getElem_cons_zero]
          refine wpAnyH_ready (rs := [17]) (by kernel_rfl) (by simp) (AllReadyH.cons rfl (fun K hK => ?_) AllReadyH.nil)
          go_simp
          refine hK.out _ _ hH (fun _ => ?_)
          refine wpAnyH_done (by kernel_rfl) ?_ _
          clear hK K
          have hF := hH.1
          clear hH
          go_wp2_with fail
          go_ret
          exact ⟨AC, cC, rfl, OC.out.base (Nat.le_trans (Nat.le_of_lt hlt) hsz), fields_end HB1.out hF⟩
    · skip
      go_simp
      refine (number_at (s.setWidth 64) 4 (by decide) (by decide) _ _ (wideW s) rfl _).mono ?_
      rintro r wS ⟨AS, cS, rfl, oS, bS⟩
      go_wp2_with fail
      refine hK.out _ _ (held k0 k1 k2 hlt (hH.1.call bS)) (fun hH' => ?_)
      replace L1 := Lo.call bS L1
      replace LE := Lo.call bS LE
      have LS := Lo.own oS
      clear hK K hH
      have hH := hH'
      clear hH'
      try simp only [Act.put, List.setIfInBounds_toArray, List.set_cons_zero, List.set_cons_succ, List.getElem_toArray, List.getElem_cons_succ, List.getElem_cons_zero]
      refine wpAnyH_ready (rs := [0, 13]) (by kernel_rfl) (by simp) (AllReadyH.cons rfl (fun K hK => ?_) (AllReadyH.cons rfl (fun K hK => ?_) AllReadyH.nil))
      · skip
        go_simp
        have hz := hH.1.size
        refine hK.out _ _ (held k0 k1 k2 hlt (hH.1.alloc _)) (fun hH' => ?_)
        have LM := (Lo.lit wS 5 #[v8 68#8, v8 86#8, v8 84#8, v8 49#8] mark rfl 4 rfl)
        replace L1 := (Lo.alloc (.cells #[v8 68#8, v8 86#8, v8 84#8, v8 49#8] 5) L1)
        replace LE := (Lo.alloc (.cells #[v8 68#8, v8 86#8, v8 84#8, v8 49#8] 5) LE)
        replace LS := (Lo.alloc (.cells #[v8 68#8, v8 86#8, v8 84#8, v8 49#8] 5) LS)
        clear hK K hH
        have hH := hH'
        clear hH'
        try simp only [Act.put, List.setIfInBounds_toArray, List.set_cons_zero, List.set_cons_succ, List.getElem_toArray, List.getElem_cons_succ, List.getElem_cons_zero]
        refine wpAnyH_ready (rs := [1, 13]) (by kernel_rfl) (by simp) (AllReadyH.cons rfl (fun K hK => ?_) (AllReadyH.cons rfl (fun K hK => ?_) AllReadyH.nil))
        · skip
          go_simp
          refine hK.out _ _ (held k0 k1 k2 hlt (From.mkd hz hH.1)) (fun hH' => ?_)
          replace L1 := Lo.mkd (a := ⟨wS.heap.size, 0, none⟩) L1
          replace LM := Lo.mkd (a := ⟨wS.heap.size, 0, none⟩) LM
          replace LE := Lo.mkd (a := ⟨wS.heap.size, 0, none⟩) LE
          replace LS := Lo.mkd (a := ⟨wS.heap.size, 0, none⟩) LS
          clear hK K hH
          have hH := hH'
          clear hH'
          try simp only [Act.put, List.setIfInBounds_toArray, List.set_cons_zero, List.set_cons_succ, List.getElem_toArray, List.getElem_cons_succ, List.getElem_cons_zero]
          refine wpAnyH_ready (rs := [13]) (by kernel_rfl) (by simp) (AllReadyH.cons rfl (fun K hK => ?_) AllReadyH.nil)
          go_simp
          refine (number_at (BitVec.ofInt 64 f) 1 (by decide) (by decide) _ _ (flagsW hf0 hf3) rfl _).mono ?_
          rintro r wF ⟨AF, cF, rfl, oF, bF⟩
          go_wp2_with fail
          refine hK.out _ _ (held k0 k1 k2 hlt (hH.1.call bF)) (fun hH' => ?_)
          replace L1 := Lo.call bF L1
          replace LM := Lo.call bF LM
          replace LE := Lo.call bF LE
          replace LS := Lo.call bF LS
          have LF := Lo.own oF
          clear hK K hH
          have hH := hH'
          clear hH'
          try simp only [Act.put, List.setIfInBounds_toArray, List.set_cons_zero, List.set_cons_succ, List.getElem_toArray, List.getElem_cons_succ, List.getElem_cons_zero]
          refine wpAnyH_ready (rs := [15]) (by kernel_rfl) (by simp) (AllReadyH.cons rfl (fun K hK => ?_) AllReadyH.nil)
          go_simp
          refine hK.out _ _ (held k0 k1 k2 hlt (hH.1.alloc _)) (fun hH' => ?_)
          clear hK K hH
          have hH := hH'
          clear hH'
          try simp only [Act.put, List.setIfInBounds_toArray, List.set_cons_zero, List.set_cons_succ, List.getElem_toArray, List.getElem_cons_succ, List.getElem_cons_zero]
          have hsz := hH.1.size
          refine wpAnyH_ready (rs := [16]) (by kernel_rfl) (by simp) (AllReadyH.cons rfl (fun K hK => ?_) AllReadyH.nil)
          go_simp
          refine (concat5 _ _ ⟨some ⟨wS.heap.size, 0, none⟩, 4, 4, mark⟩ ⟨AE, 4, cE, num 4 (e.setWidth 64)⟩ ⟨AS, 4, cS, num 4 (s.setWidth 64)⟩ ⟨AF, 1, cF, num 1 (BitVec.ofInt 64 f)⟩ ⟨A1, 2 + n, c1, text body⟩ _ (Cel.new _ _ _) (LM.alloc _) (LE.alloc _) (LS.alloc _) (LF.alloc _) (L1.alloc _) (15 + n) (by show 4 + (4 + (4 + (1 + (2 + n)))) = 15 + n; omega) (by omega)).mono ?_
          rintro r wC ⟨AC, cC, rfl, oC, bC⟩
          have OC := Lib.hid oC
          clear oC
          go_wp2_with fail
          refine hK.out _ _ (held k0 k1 k2 hlt (hH.1.call bC)) (fun hH' => ?_)
          clear hK K hH
          have hH := hH'
          clear hH'
          try simp only [Act.put, List.setIfInBounds_toArray, List.set_cons_zero, List.set_cons_succ, List.getElem_toArray, List.getElem_cons_succ, List.getElem_cons_zero]
          refine wpAnyH_ready (rs := [17]) (by kernel_rfl) (by simp) (AllReadyH.cons rfl (fun K hK => ?_) AllReadyH.nil)
          go_simp
          refine hK.out _ _ hH (fun _ => ?_)
          refine wpAnyH_done (by kernel_rfl) ?_ _
          clear hK K
          have hF := hH.1
          clear hH
          go_wp2_with fail
          go_ret
          exact ⟨AC, cC, rfl, OC.out.base (Nat.le_trans (Nat.le_of_lt hlt) hsz), fields_end HB1.out hF⟩
        · skip
          go_simp
          refine (number_at (BitVec.ofInt 64 f) 1 (by decide) (by decide) _ _ (flagsW hf0 hf3) rfl _).mono ?_
          rintro r wF ⟨AF, cF, rfl, oF, bF⟩
          go_wp2_with fail
          refine hK.out _ _ (held k0 k1 k2 hlt (hH.1.call bF)) (fun hH' => ?_)
          replace L1 := Lo.call bF L1
          replace LM := Lo.call bF LM
          replace LE := Lo.call bF LE
          replace LS := Lo.call bF LS
          have LF := Lo.own oF
          clear hK K hH
          have hH := hH'
          clear hH'
          try simp only [Act.put, List.setIfInBounds_toArray, List.set_cons_zero, List.set_cons_succ, List.getElem_toArray, List.getElem_cons_succ, List.getElem_cons_zero]
          refine wpAnyH_ready (rs := [1]) (by kernel_rfl) (by simp) (AllReadyH.cons rfl (fun K hK => ?_) AllReadyH.nil)
          go_simp
          refine hK.out _ _ (held k0 k1 k2 hlt (From.mkd hz hH.1)) (fun hH' => ?_)
          replace L1 := Lo.mkd (a := ⟨wS.heap.size, 0, none⟩) L1
          replace LM := Lo.mkd (a := ⟨wS.heap.size, 0, none⟩) LM
          replace LE := Lo.mkd (a := ⟨wS.heap.size, 0, none⟩) LE
          replace LS := Lo.mkd (a := ⟨wS.heap.size, 0, none⟩) LS
          replace LF := Lo.mkd (a := ⟨wS.heap.size, 0, none⟩) LF
          clear hK K hH
          have hH := hH'
          clear hH'
          try simp only [Act.put, List.setIfInBounds_toArray, List.set_cons_zero, List.set_cons_succ, List.getElem_toArray, List.getElem_cons_succ, List.getElem_cons_zero]
          refine wpAnyH_ready (rs := [15]) (by kernel_rfl) (by simp) (AllReadyH.cons rfl (fun K hK => ?_) AllReadyH.nil)
          go_simp
          refine hK.out _ _ (held k0 k1 k2 hlt (hH.1.alloc _)) (fun hH' => ?_)
          clear hK K hH
          have hH := hH'
          clear hH'
          try simp only [Act.put, List.setIfInBounds_toArray, List.set_cons_zero, List.set_cons_succ, List.getElem_toArray, List.getElem_cons_succ, List.getElem_cons_zero]
          have hsz := hH.1.size
          refine wpAnyH_ready (rs := [16]) (by kernel_rfl) (by simp) (AllReadyH.cons rfl (fun K hK => ?_) AllReadyH.nil)
          go_simp
          refine (concat5 _ _ ⟨some ⟨wS.heap.size, 0, none⟩, 4, 4, mark⟩ ⟨AE, 4, cE, num 4 (e.setWidth 64)⟩ ⟨AS, 4, cS, num 4 (s.setWidth 64)⟩ ⟨AF, 1, cF, num 1 (BitVec.ofInt 64 f)⟩ ⟨A1, 2 + n, c1, text body⟩ _ (Cel.new _ _ _) (LM.alloc _) (LE.alloc _) (LS.alloc _) (LF.alloc _) (L1.alloc _) (15 + n) (by show 4 + (4 + (4 + (1 + (2 + n)))) = 15 + n; omega) (by omega)).mono ?_
          rintro r wC ⟨AC, cC, rfl, oC, bC⟩
          have OC := Lib.hid oC
          clear oC
          go_wp2_with fail
          refine hK.out _ _ (held k0 k1 k2 hlt (hH.1.call bC)) (fun hH' => ?_)
          clear hK K hH
          have hH := hH'
          clear hH'
          try simp only [Act.put, List.setIfInBounds_toArray, List.set_cons_zero, List.set_cons_succ, List.getElem_toArray, List.getElem_cons_succ, List.getElem_cons_zero]
          refine wpAnyH_ready (rs := [17]) (by kernel_rfl) (by simp) (AllReadyH.cons rfl (fun K hK => ?_) AllReadyH.nil)
          go_simp
          refine hK.out _ _ hH (fun _ => ?_)
          refine wpAnyH_done (by kernel_rfl) ?_ _
          clear hK K
          have hF := hH.1
          clear hH
          go_wp2_with fail
          go_ret
          exact ⟨AC, cC, rfl, OC.out.base (Nat.le_trans (Nat.le_of_lt hlt) hsz), fields_end HB1.out hF⟩
      · skip
        go_simp
        refine (number_at (BitVec.ofInt 64 f) 1 (by decide) (by decide) _ _ (flagsW hf0 hf3) rfl _).mono ?_
        rintro r wF ⟨AF, cF, rfl, oF, bF⟩
        go_wp2_with fail
        refine hK.out _ _ (held k0 k1 k2 hlt (hH.1.call bF)) (fun hH' => ?_)
        replace L1 := Lo.call bF L1
        replace LE := Lo.call bF LE
        replace LS := Lo.call bF LS
        have LF := Lo.own oF
        clear hK K hH
        have hH := hH'
        clear hH'
        try simp only [Act.put, List.setIfInBounds_toArray, List.set_cons_zero, List.set_cons_succ, List.getElem_toArray, List.getElem_cons_succ, List.getElem_cons_zero]
        refine wpAnyH_ready (rs := [0]) (by kernel_rfl) (by simp) (AllReadyH.cons rfl (fun K hK => ?_) AllReadyH.nil)
        go_simp
        have hz := hH.1.size
        refine hK.out _ _ (held k0 k1 k2 hlt (hH.1.alloc _)) (fun hH' => ?_)
        have LM := (Lo.lit wF 5 #[v8 68#8, v8 86#8, v8 84#8, v8 49#8] mark rfl 4 rfl)
        replace L1 := (Lo.alloc (.cells #[v8 68#8, v8 86#8, v8 84#8, v8 49#8] 5) L1)
        replace LE := (Lo.alloc (.cells #[v8 68#8, v8 86#8, v8 84#8, v8 49#8] 5) LE)
        replace LS := (Lo.alloc (.cells #[v8 68#8, v8 86#8, v8 84#8, v8 49#8] 5) LS)
        replace LF := (Lo.alloc (.cells #[v8 68#8, v8 86#8, v8 84#8, v8 49#8] 5) LF)
        clear hK K hH
        have hH := hH'
        clear hH'
        try simp only [Act.put, List.setIfInBounds_toArray, List.set_cons_zero, List.set_cons_succ, List.getElem_toArray, List.getElem_cons_succ, List.getElem_cons_zero]
        refine wpAnyH_ready (rs := [1]) (by kernel_rfl) (by simp) (AllReadyH.cons rfl (fun K hK => ?_) AllReadyH.nil)
        go_simp
        refine hK.out _ _ (held k0 k1 k2 hlt (From.mkd hz hH.1)) (fun hH' => ?_)
        replace L1 := Lo.mkd (a := ⟨wF.heap.size, 0, none⟩) L1
        replace LM := Lo.mkd (a := ⟨wF.heap.size, 0, none⟩) LM
        replace LE := Lo.mkd (a := ⟨wF.heap.size, 0, none⟩) LE
        replace LS := Lo.mkd (a := ⟨wF.heap.size, 0, none⟩) LS
        replace LF := Lo.mkd (a := ⟨wF.heap.size, 0, none⟩) LF
        clear hK K hH
        have hH := hH'
        clear hH'
        try simp only [Act.put, List.setIfInBounds_toArray, List.set_cons_zero, List.set_cons_succ, List.getElem_toArray, List.getElem_cons_succ, List.getElem_cons_zero]
        refine wpAnyH_ready (rs := [15]) (by kernel_rfl) (by simp) (AllReadyH.cons rfl (fun K hK => ?_) AllReadyH.nil)
        go_simp
        refine hK.out _ _ (held k0 k1 k2 hlt (hH.1.alloc _)) (fun hH' => ?_)
        clear hK K hH
        have hH := hH'
        clear hH'
        try simp only [Act.put, List.setIfInBounds_toArray, List.set_cons_zero, List.set_cons_succ, List.getElem_toArray, List.getElem_cons_succ, List.getElem_cons_zero]
        have hsz := hH.1.size
        refine wpAnyH_ready (rs := [16]) (by kernel_rfl) (by simp) (AllReadyH.cons rfl (fun K hK => ?_) AllReadyH.nil)
        go_simp
        refine (concat5 _ _ ⟨some ⟨wF.heap.size, 0, none⟩, 4, 4, mark⟩ ⟨AE, 4, cE, num 4 (e.setWidth 64)⟩ ⟨AS, 4, cS, num 4 (s.setWidth 64)⟩ ⟨AF, 1, cF, num 1 (BitVec.ofInt 64 f)⟩ ⟨A1, 2 + n, c1, text body⟩ _ (Cel.new _ _ _) (LM.alloc _) (LE.alloc _) (LS.alloc _) (LF.alloc _) (L1.alloc _) (15 + n) (by show 4 + (4 + (4 + (1 + (2 + n)))) = 15 + n; omega) (by omega)).mono ?_
        rintro r wC ⟨AC, cC, rfl, oC, bC⟩
        have OC := Lib.hid oC
        clear oC
        go_wp2_with fail
        refine hK.out _ _ (held k0 k1 k2 hlt (hH.1.call bC)) (fun hH' => ?_)
        clear hK K hH
        have hH := hH'
        clear hH'
        try simp only [Act.put, List.setIfInBounds_toArray, List.set_cons_zero, List.set_cons_succ, List.getElem_toArray, List.getElem_cons_succ, List.getElem_cons_zero]
        refine wpAnyH_ready (rs := [17]) (by kernel_rfl) (by simp) (AllReadyH.cons rfl (fun K hK => ?_) AllReadyH.nil)
        go_simp
        refine hK.out _ _ hH (fun _ => ?_)
        refine wpAnyH_done (by kernel_rfl) ?_ _
        clear hK K
        have hF := hH.1
        clear hH
        go_wp2_with fail
        go_ret
        exact ⟨AC, cC, rfl, OC.out.base (Nat.le_trans (Nat.le_of_lt hlt) hsz), fields_end HB1.out hF⟩
end Go.Proofs.YtdaknfepcbooeaaGreat.Sector
end

section
namespace Go.Proofs.YtdaknfepcbooeaaGreat.Sector
open Go.RowKit Go.Proofs.YtdaknfepcbooeaaGreat.Pack
set_option linter.unusedVariables false

theorem le4_form (x : BitVec 32) : ∃ a b c d, num 4 (x.setWidth 64) = [a, b, c, d] ∧ le4 x = [d, c, b, a] := by
  have hl := num_length 4 (x.setWidth 64)
  match h : num 4 (x.setWidth 64), hl with
  | [a, b, c, d], _ => exact ⟨a, b, c, d, rfl, by rw [le4, h]; rfl⟩

set_option maxRecDepth 100000 in
set_option maxHeartbeats 1000000 in
theorem sumOf (B : Nat) (A : Option Addr) (n c : Nat) (bs : List (BitVec 8)) (w : World) (hbs : Bs w B A n bs) (hB : B ≤ w.heap.size) (hn : n ≤ maxLen) :
    Calls Tryz.prog 125 #[.slice A n c] w fun r w' => ∃ A' c', r = .returned (.slice A' 4 c') ∧ Own w' w.heap.size A' 4 c' (le4 (Crc.sum bs)) ∧ Below w.heap.size w w' := by
  have HB := Lib.hid hbs
  clear hbs
  go_enter Tryz.func125, Tryz.ntmps125
  go_wp2_with fail
  refine (Crc.sum_any B A n c bs _ HB.out hB hn).mono ?_
  rintro r w1 ⟨rfl, hb1⟩
  have s1 := hb1.size
  generalize hX : Crc.sum bs = X
  have HX := Lib.hid hX
  clear hX
  go_wp2_with fail
  refine (number_at (X.setWidth 64) 4 (by decide) (by decide) _ _ (wide X) rfl _).mono ?_
  rintro r w2 ⟨A2, c2, rfl, ho2, hb2⟩
  have s2 := hb2.size
  obtain ⟨a, b, c', d, e1, e2⟩ := le4_form X
  rw [e1] at ho2
  have O2 := Lib.hid ho2
  have E2 := Lib.hid e2
  clear ho2 e1 e2
  go_wp2_with fail
  refine (reverse4 _ A2 c2 a b c' d _ O2.out).mono ?_
  rintro r w3 ⟨rfl, ho3, hb3⟩
  have O3 := Lib.hid ho3
  clear ho3
  go_wp2_with fail
  go_ret
  exact ⟨A2, c2, rfl, by rw [HX.out, E2.out]; exact O3.out.base s1, (hb1.trans (hb2.mono s1)).trans (hb3.mono s1)⟩

/-- A result that lies in a variable. -/
theorem results_cell {P : Program} {fn : Func} {tmps : Array Value} {w : World} (a : Tmp) (t : TypeId) (hr : fn.results = #[.cell a t]) (ad : Addr) (ha : tmps.getD a undef = .pointer (some ad)) (v : Value) (hl : (loadVar t ad).run P w = .ok v w) :
    (results fn tmps).run P w = .ok v w := by
  unfold results
  rw [hr]
  simp only [List.mapM_toArray, List.mapM_cons, List.mapM_nil, ha, asAddr]
  simp [hl]
theorem zero512 : (Tryz.prog.info? 157).map (fun i => (i.zero, i.size)) = some (some (.agg (List.replicate 512 (v8 0#8)).toArray), 512) := by kernel_rfl
theorem arr512 : Tryz.prog.underlying 157 = some (.array 512 5) := by kernel_rfl
theorem size8 : (Tryz.prog.info? 5).map (·.size) = some 1 := by kernel_rfl

theorem Cel.range {w : World} {g : Nat} {t : TypeId} {cs : List Value} (h : Cel w g t cs) : w.rangeAt g 0 cs := fun j v hv => by
  rw [Nat.zero_add, h.cell j, hv]
theorem Cel.there {w : World} {g : Nat} {t : TypeId} {cs : List Value} (h : Cel w g t cs) : w.there g 0 cs.length := fun j hj => by
  rw [Nat.zero_add]
  exact ⟨by rw [h.cell j, List.getElem?_eq_getElem hj]; rfl, h.free j⟩
theorem Cel.bs {w : World} {g B : Nat} {t : TypeId} {bs l : List (BitVec 8)} {n : Nat} (h : Cel w g t (bs.map v8)) (hB : g < B) (hn : n ≤ bs.length) (hl : bs.take n = l) : Bs w B (some ⟨g, 0, none⟩) n l := by
  subst hl
  refine ⟨by rw [List.length_take]; omega, fun _ => ⟨_, rfl, hB, fun j hj => ?_⟩⟩
  rw [add_row, h.cell j, List.getElem?_map, List.getElem?_eq_getElem (by omega), List.getD_eq_getElem?_getD, List.getElem?_take, if_pos hj, List.getElem?_eq_getElem (by omega)]
  rfl
theorem Cel.setCells {w : World} {g : Nat} {t : TypeId} {cs vs : List Value} (h : Cel w g t cs) (hl : vs.length = cs.length) : Cel (w.setCells g 0 vs) g t vs := by
  have key : ∀ (vs cs : List Value) (k : Nat) (pre : List Value) (w : World), pre.length = k → vs.length = cs.length → Cel w g t (pre ++ cs) → Cel (w.setCells g k vs) g t (pre ++ vs) := by
    intro vs
    induction vs with
    | nil => intro cs k pre w hk hl h; cases cs with
      | nil => exact h
      | cons c cs => simp at hl
    | cons v vs ih =>
      intro cs k pre w hk hl h
      cases cs with
      | nil => simp at hl
      | cons c cs =>
        rw [World.setCells]
        have h1 := h.set k v
        rw [List.set_append_right _ _ (by omega), hk, Nat.sub_self, List.set_cons_zero] at h1
        have := ih cs (k + 1) (pre ++ [v]) _ (by simp [hk]) (by simpa using hl) (by simpa using h1)
        simpa using this
  simpa using key vs cs 0 [] w rfl hl (by simpa using h)
theorem Below.setCells {B : Nat} {w0 w : World} (h : Below B w0 w) {g : Nat} (hg : B ≤ g) : ∀ (vs : List Value) (o : Nat), Below B w0 (w.setCells g o vs) := by
  intro vs
  induction vs generalizing w with
  | nil => intro o; exact h
  | cons v vs ih => intro o; rw [World.setCells]; exact ih (h.setCell hg v) _
theorem Bs.srcs {w : World} {B : Nat} {A : Option Addr} {n : Nat} {bs : List (BitVec 8)} (h : Bs w B A n bs) : 0 < n → ∃ ad, A = some ad ∧ ∀ j v, (bs.map v8)[j]? = some v → w.cell? (ad.add j) = some v := fun hn => by
  obtain ⟨ad, e, _, hc⟩ := h.2 hn
  refine ⟨ad, e, fun j v hv => ?_⟩
  have hj : j < bs.length := by
    rcases Nat.lt_or_ge j bs.length with h' | h'
    · exact h'
    · rw [List.getElem?_eq_none (by simpa using h')] at hv; cases hv
  rw [hc j (by rw [← h.1]; exact hj), List.getD_eq_getElem?_getD, List.getElem?_eq_getElem hj]
  rw [List.getElem?_map, List.getElem?_eq_getElem hj] at hv
  exact hv
theorem one8 (bs : List (BitVec 8)) : ∀ v ∈ bs.map v8, v.oneCell' = true := by
  intro u hu; obtain ⟨x, _, rfl⟩ := List.mem_map.1 hu; rfl
/-- The first copy. -/
theorem splice_head (p : Pt) (hm : p.may = true) : splice (List.replicate 512 (v8 0#8)) 0 ((fields p).map v8) = (head p ++ List.replicate 4 0#8).map v8 := by
  have hb := may_body hm
  have hl := fields_length p
  rw [splice, List.take_zero, List.nil_append, List.drop_replicate, head, List.map_append, List.map_append, List.map_replicate, List.map_replicate, List.append_assoc, List.replicate_append_replicate]
  congr 2
  simp
  omega
/-- The second copy. -/
theorem splice_sec (p : Pt) (hm : p.may = true) : splice ((head p ++ List.replicate 4 0#8).map v8) 508 ((le4 (Crc.sum (head p))).map v8) = (sec p).map v8 := by
  have hl := head_length hm
  have h4 := le4_length (Crc.sum (head p))
  rw [splice, List.map_append, List.take_append_of_le_length (by simp; omega), List.take_of_length_le (by simp; omega), sec, List.map_append]
  congr 1
  rw [List.drop_eq_nil_of_le (by simp; omega), List.append_nil]

set_option maxRecDepth 100000 in
set_option maxHeartbeats 1000000 in
theorem imageOf (p : Pt) (B : Nat) (A : Option Addr) (n c : Nat) (w : World) (hbs : Bs w B A n p.body) (hB : B ≤ w.heap.size) (hm : p.may = true) :
    Calls Tryz.prog 112 #[partV p.epoch p.seq p.flags A n c] w fun r w' => r = .returned (.agg ((sec p).map v8).toArray) ∧ Below w.heap.size w w' := by
  have hn : n ≤ 493 := by have := may_body hm; rw [hbs.len] at this; exact this
  obtain ⟨hz, hsz⟩ := zero_of_info zero512
  obtain ⟨zl, hZ⟩ : ∃ zl : List Value, zl = List.replicate 512 (v8 0#8) := ⟨_, rfl⟩
  rw [← hZ] at hz
  have HZ := Lib.hid hZ
  have hzl : zl.length = 512 := by rw [hZ]; simp
  have HB := Lib.hid hbs
  have HM := Lib.hid hm
  have HSZ := Lib.hid hsz
  have HZL := Lib.hid hzl
  clear hbs hm hZ hsz hzl
  have hW0 : Cel (((w.alloc (.cells #[v32 p.epoch, v32 p.seq, .int .i64 p.flags, .slice A n c] 121)).alloc (.cells zl.toArray 157)).alloc (.cells zl.toArray 157)) w.heap.size 121 [v32 p.epoch, v32 p.seq, .int .i64 p.flags, .slice A n c] :=
    ((Cel.new w _ _).alloc _).alloc _
  have hW1 : Cel (((w.alloc (.cells #[v32 p.epoch, v32 p.seq, .int .i64 p.flags, .slice A n c] 121)).alloc (.cells zl.toArray 157)).alloc (.cells zl.toArray 157)) (w.heap.size + 1) 157 zl := by
    have := (Cel.new (w.alloc (.cells #[v32 p.epoch, v32 p.seq, .int .i64 p.flags, .slice A n c] 121)) 157 zl).alloc (.cells zl.toArray 157)
    simpa using this
  have hW2 : Cel (((w.alloc (.cells #[v32 p.epoch, v32 p.seq, .int .i64 p.flags, .slice A n c] 121)).alloc (.cells zl.toArray 157)).alloc (.cells zl.toArray 157)) (w.heap.size + 1 + 1) 157 zl := by
    have := (Cel.new ((w.alloc (.cells #[v32 p.epoch, v32 p.seq, .int .i64 p.flags, .slice A n c] 121)).alloc (.cells zl.toArray 157)) 157 zl)
    simpa using this
  have hWB : Below w.heap.size w (((w.alloc (.cells #[v32 p.epoch, v32 p.seq, .int .i64 p.flags, .slice A n c] 121)).alloc (.cells zl.toArray 157)).alloc (.cells zl.toArray 157)) :=
    (((Below.refl _ _).alloc (Nat.le_refl _) _).alloc (by simp) _).alloc (by simp; omega) _
  have HW0 := Lib.hid hW0
  have HW1 := Lib.hid hW1
  have HW2 := Lib.hid hW2
  have HWB := Lib.hid hWB
  clear hW0 hW1 hW2 hWB
  go_enter Tryz.func112, Tryz.ntmps112
  go_wp2_with fail
  generalize ((w.alloc (.cells #[v32 p.epoch, v32 p.seq, .int .i64 p.flags, .slice A n c] 121)).alloc (.cells zl.toArray 157)).alloc (.cells zl.toArray 157) = W at *
  have q0 := HW0.out.cell 0
  have q1 := HW0.out.cell 1
  have q2 := HW0.out.cell 2
  have q3 := HW0.out.cell 3
  have sW := HW2.out.lt
  go_region_law (first
    | (go_simp; go_at_call 124; refine (fields_walk p B A n c _ ((HB.out.below (HWB.out.mono hB)).drew) (Nat.le_trans hB HWB.out.size) HM.out).mono ?_; rintro r w1 ⟨A1, c1, rfl, ho1, hb1⟩; replace hb1 := (Below.refl W.heap.size W).drew.trans hb1; have O1 := Lib.hid ho1; clear ho1)
    | (refine step_copy_splice rfl (.tmp 4) (.tmp 6) 44 44 rfl 5 Tryz.underlying44 size8 _ _ 508 512 (15 + n) _ rfl rfl (w.heap.size + 1 + 1) 0 zl 157 (HW2.out.below hb1 sW) ((fields p).map v8) (by rw [List.length_map, fields_length, HB.out.len]; exact (Nat.min_eq_left (by omega)).symm) (fun _ => ⟨rfl, Bs.srcs (Own.low O1.out) (by omega)⟩) (by rw [HZL.out, List.length_map, fields_length, HB.out.len]; omega) (one8 _) (w.heap.size + 1 + 1) W (hb1.mono (Nat.le_of_lt sW)) (Nat.le_refl _) ?_; intro w2 hg2 hb2))
  have hC2 : Cel w2 (w.heap.size + 1 + 1) 157 ((head p ++ List.replicate 4 0#8).map v8) := by
    rw [← splice_head p HM.out, ← HZ.out]; exact hg2.out
  have HC2 := Lib.hid hC2
  have s2 := hC2.lt
  have hlen : (head p).length = 508 := head_length HM.out
  have HLEN := Lib.hid hlen
  have HB2 := Lib.hid hb2
  clear hg2 hC2 hlen hb2 hb1 O1 q0 q1 q2 q3
  go_wp2_with fail
  go_region_law (first
    | (go_simp; go_at_call 125; refine (sumOf (w.heap.size + 1 + 1 + 1) _ 508 _ (head p) _ (Bs.drew (Cel.bs HC2.out (Nat.lt_succ_self _) (by rw [List.length_append, HLEN.out]; omega) (by rw [List.take_append_of_le_length (by rw [HLEN.out]; exact Nat.le_refl _), List.take_of_length_le (by rw [HLEN.out]; exact Nat.le_refl _)]))) s2 (by decide)).mono ?_; rintro r w3 ⟨A3, c3, rfl, ho3, hb3⟩; replace hb3 := (Below.refl w2.heap.size w2).drew.trans hb3; have O3 := Lib.hid ho3; clear ho3)
    | (refine step_copy_splice rfl (.tmp 8) (.tmp 10) 44 44 rfl 5 Tryz.underlying44 size8 _ _ 4 4 4 _ rfl rfl (w.heap.size + 1 + 1) 508 ((head p ++ List.replicate 4 0#8).map v8) 157 (HC2.out.below hb3 s2) ((le4 (Crc.sum (head p))).map v8) (by rw [List.length_map, le4_length]; rfl) (fun _ => ⟨rfl, Bs.srcs (Own.low O3.out) (by decide)⟩) (by rw [List.length_map, List.length_map, List.length_append, HLEN.out, le4_length]; simp) (one8 _) (w.heap.size + 1 + 1) W (HB2.out.trans (hb3.mono (Nat.le_of_lt s2))) (Nat.le_refl _) ?_; intro w4 hg4 hb4))
  have hC4 : Cel w4 (w.heap.size + 1 + 1) 157 ((sec p).map v8) := by
    rw [← splice_sec p HM.out]; exact hg4.out
  have hD4 : Cel w4 (w.heap.size + 1) 157 zl := HW1.out.below hb4 (Nat.lt_succ_self _)
  have hls : ((sec p).map v8).length = 512 := by rw [List.length_map, sec_length HM.out]
  have HC4 := Lib.hid hC4
  have HD4 := Lib.hid hD4
  have HLS := Lib.hid hls
  have HB4 := Lib.hid hb4
  have H1 := Lib.hid (one8 (sec p))
  clear hg4 hC4 hD4 hls hb4 O3 hb3
  generalize hcs : (sec p).map v8 = cs at *
  have HCS := Lib.hid hcs
  clear hcs
  have hlc := HLS.out
  have hst : (storeCells { block := w.heap.size + 1, off := 0 } cs).run Tryz.prog w4 = .ok () (w4.setCells (w.heap.size + 1) 0 cs) := by
    have ht := Cel.there HD4.out
    rw [HZL.out] at ht
    have := run_storeCells_cells (P := Tryz.prog) (w.heap.size + 1) 0 cs 0 w4 (fun j hj => by simpa using (ht j (by omega)).1) (fun j hj => by simpa using (ht j (by omega)).2) H1.out
    simpa using this
  go_wp2_with (first
    | (refine wpList_load_mid rfl 157 (.tmp 3) rfl (w.heap.size + 1 + 1) 0 rfl cs (.array 512 5) (Cel.range HC4.out) arr512 rfl (by rw [HLS.out]; exact HSZ.out) ?_))
  have hR := run_loadVar_mid (P := Tryz.prog) (w4.setCells (w.heap.size + 1) 0 cs) (w.heap.size + 1) 0 157 cs (.array 512 5) (Cel.range (Cel.setCells HD4.out (by rw [HLS.out, HZL.out]))) arr512 rfl (by rw [HLS.out]; exact HSZ.out)
  refine bodyPost_ret (v := .agg cs.toArray) ?_ rfl ⟨by rw [HCS.out], ?_⟩
  · exact results_cell 2 157 Tryz.results112 ⟨w.heap.size + 1, 0, none⟩ rfl _ hR
  · exact HWB.out.trans (Below.setCells (HB4.out.mono (by omega)) (by omega) _ _)
end Go.Proofs.YtdaknfepcbooeaaGreat.Sector
end

section
namespace Go.Proofs.YtdaknfepcbooeaaGreat.Sector
open Go.RowKit Go.Proofs.YtdaknfepcbooeaaGreat.Pack
set_option linter.unusedVariables false

theorem narrow32 (x : BitVec 64) : (x.toNat : Int) % 4294967296 = ((x.setWidth 32).toNat : Int) := by
  rw [BitVec.toNat_setWidth]; omega

/-- While parse runs: the reader, the part's variable at block q, the result's at block b, and nothing else has changed. -/
structure PS (w w' : World) (q d g : Nat) (st : St) (x0 x1 x2 x3 : Value) : Prop where
  rd : Rd w' (w.heap.size + 1) d g st
  var : Cel w' q 121 [x0, x1, x2, x3]
  res : Cel w' w.heap.size 121 [.int .u32 0, .int .u32 0, .int .i64 0, .slice none 0 0]
  low : Below w.heap.size w w'
  gq : g < q
namespace PS
variable {w w1 w2 : World} {q d g : Nat} {st st' : St} {x0 x1 x2 x3 : Value}
theorem after (h : PS w w1 q d g st x0 x1 x2 x3) (ha : After w1 (w.heap.size + 1) d g st' w2) : PS w w2 q d g st' x0 x1 x2 x3 := by
  have h1 := h.rd.1
  have h2 := h.rd.2.1
  have h3 := h.gq
  refine ⟨ha.1, h.var.frm ha.2 (by simp; omega), h.res.frm ha.2 (by simp; omega), h.low.trans (ha.2.below h.low.size (by simp; omega)), h3⟩
theorem store (h : PS w w1 q d g st x0 x1 x2 x3) (i : Nat) (u y0 y1 y2 y3 : Value) (e : [x0, x1, x2, x3].set i u = [y0, y1, y2, y3]) : PS w (w1.setCell ⟨q, i, none⟩ u) q d g st y0 y1 y2 y3 := by
  have h1 := h.rd.1
  have h2 := h.rd.2.1
  have h3 := h.gq
  have hf : Frm [q] w1 (w1.setCell ⟨q, i, none⟩ u) := (Frm.refl _ _).set (by simp) _
  refine ⟨h.rd.frm hf (by simp; omega), ?_, h.res.frm hf (by simp; omega), h.low.setCell (by show _ ≤ q; omega) _, h3⟩
  rw [← e]
  exact h.var.set i u
end PS
theorem flag64 (x : BitVec 64) (h : x.toNat < 256) : IntKind.i64.wrap (x.toNat : Int) = (x.toNat : Int) := by
  rw [IntKind.wrap_i64]; omega

set_option maxRecDepth 100000 in
set_option maxHeartbeats 1000000 in
theorem parse_walk (B : Nat) (A : Option Addr) (n c : Nat) (bs : List (BitVec 8)) (w : World) (hbs : Bs w B A n bs) (hB : B ≤ w.heap.size) (hn : n ≤ 140737488355328) :
    Calls Tryz.prog 110 #[.slice A n c] w fun r w' => ∃ A' c', r = .returned (partV (parse bs).epoch (parse bs).seq (parse bs).flags A' (parse bs).body.length c') ∧ Own w' w.heap.size A' (parse bs).body.length c' (parse bs).body ∧ Below w.heap.size w w' := by
  have HB := Lib.hid hbs
  clear hbs
  have hp : parse bs = (readAll (some bs)).2.1 := rfl
  simp only [readAll] at hp
  have HP := Lib.hid hp
  clear hp
  have hz0 : Cel (w.alloc (.cells #[.int .u32 0, .int .u32 0, .int .i64 0, .slice none 0 0] 121)) w.heap.size 121 [.int .u32 0, .int .u32 0, .int .i64 0, .slice none 0 0] := Cel.new w _ _
  have hb0 : Below w.heap.size w (w.alloc (.cells #[.int .u32 0, .int .u32 0, .int .i64 0, .slice none 0 0] 121)) := (Below.refl _ _).alloc (Nat.le_refl _) _
  have HZ0 := Lib.hid hz0
  have HB0 := Lib.hid hb0
  clear hz0 hb0
  go_enter Tryz.func110, Tryz.ntmps110
  go_wp2_with fail
  generalize hW : w.alloc (.cells #[.int .u32 0, .int .u32 0, .int .i64 0, .slice none 0 0] 121) = W at *
  have hWs : W.heap.size = w.heap.size + 1 := by rw [← hW]; simp
  clear hW
  have HWS := Lib.hid hWs
  clear hWs
  refine (read B A n c bs _ (HB.out.below (HB0.out.mono hB)) (by rw [HWS.out]; omega) hn).mono ?_
  rintro r w1 ⟨d, g, rfl, hr1, hs1, hb1⟩
  have hd := hr1.1
  rw [HWS.out] at hd
  have hdg := hr1.2.1
  have R1 := Lib.hid hr1
  have HS1 := Lib.hid hs1
  have HB1 := Lib.hid hb1
  clear hr1 hs1 hb1
  go_wp2_with fail
  refine (rNumber _ d g _ _ _ R1.out).mono ?_
  rintro r w2 ⟨rfl, hr2, hf2⟩
  have hg2 : g < w2.heap.size := by have := hf2.size; have := HS1.out; omega
  have R2 := Lib.hid hr2
  have F2 := Lib.hid hf2
  clear hr2 hf2
  generalize hX1 : (rnum 4 (some bs)).1 = X1
  have HX1 := Lib.hid hX1
  clear hX1
  have hps : PS w (w2.alloc (.cells #[.int .u32 0, .int .u32 0, .int .i64 0, .slice none 0 0] 121)) w2.heap.size d g (rnum 4 (some bs)).2 (.int .u32 0) (.int .u32 0) (.int .i64 0) (.slice none 0 0) := by
    have r2 := R2.out
    rw [HWS.out] at r2
    have hf : Frm [] w2 (w2.alloc (.cells #[.int .u32 0, .int .u32 0, .int .i64 0, .slice none 0 0] 121)) := (Frm.refl _ _).alloc _
    have l2 : Below w.heap.size w w2 := (HB0.out.trans (HB1.out.mono (by rw [HWS.out]; omega))).trans (F2.out.below (by have := HS1.out; omega) (by simp; omega))
    have z1 : Cel w1 w.heap.size 121 [.int .u32 0, .int .u32 0, .int .i64 0, .slice none 0 0] := HZ0.out.below HB1.out (by rw [HWS.out]; omega)
    exact ⟨r2.frm hf (by simp), Cel.new w2 _ _, (z1.frm F2.out (by simp; omega)).frm hf (by simp), l2.alloc l2.size _, hg2⟩
  have HPS := Lib.hid hps
  clear hps
  go_wp2_with fail
  generalize w2.alloc (.cells #[.int .u32 0, .int .u32 0, .int .i64 0, .slice none 0 0] 121) = w3 at *
  generalize w2.heap.size = q at *
  clear R2 F2 R1 HS1 HB1 HX1 hg2
  generalize hst1 : (rnum 4 (some bs)).2 = st1 at HPS
  have ST1 := Lib.hid hst1
  clear hst1
  refine (rNumber _ d g _ _ _ HPS.out.rd).mono ?_
  rintro r w4 ⟨rfl, ha⟩
  have H4 := Lib.hid (HPS.out.after ha)
  clear ha HPS
  have k4 := H4.out.var.cell 0
  have f4 := H4.out.var.free 0
  generalize hX2 : (rnum 4 st1).1 = X2
  generalize hst2 : (rnum 4 st1).2 = st2 at H4
  have HX2 := Lib.hid hX2
  have ST2 := Lib.hid hst2
  clear hX2 hst2
  go_wp2_with fail
  have H5 := Lib.hid (H4.out.store 0 (.int .u32 ((X2.toNat : Int) % 4294967296)) _ _ _ _ rfl)
  generalize w4.setCell ⟨q, 0, none⟩ (.int .u32 ((X2.toNat : Int) % 4294967296)) = w5 at *
  clear H4 k4 f4
  refine (rNumber _ d g _ _ _ H5.out.rd).mono ?_
  rintro r w6 ⟨rfl, ha⟩
  have H6 := Lib.hid (H5.out.after ha)
  clear ha H5
  have k6 := H6.out.var.cell 1
  have f6 := H6.out.var.free 1
  generalize hX3 : (rnum 4 st2).1 = X3
  generalize hst3 : (rnum 4 st2).2 = st3 at H6
  have HX3 := Lib.hid hX3
  have ST3 := Lib.hid hst3
  clear hX3 hst3
  go_wp2_with fail
  have H7 := Lib.hid (H6.out.store 1 (.int .u32 ((X3.toNat : Int) % 4294967296)) _ _ _ _ rfl)
  generalize w6.setCell ⟨q, 1, none⟩ (.int .u32 ((X3.toNat : Int) % 4294967296)) = w7 at *
  clear H6 k6 f6
  refine (rNumber _ d g _ _ _ H7.out.rd).mono ?_
  rintro r w8 ⟨rfl, ha⟩
  have H8 := Lib.hid (H7.out.after ha)
  clear ha H7
  have k8 := H8.out.var.cell 2
  have f8 := H8.out.var.free 2
  have hX4l := rnum_small 1 st3 (by decide) (by decide)
  generalize hX4 : (rnum 1 st3).1 = X4 at *
  generalize hst4 : (rnum 1 st3).2 = st4 at H8
  have HX4 := Lib.hid hX4
  have ST4 := Lib.hid hst4
  clear hX4 hst4
  go_wp2_with fail
  have H9 := Lib.hid (H8.out.store 2 (.int .i64 (X4.toNat : Int)) _ _ _ _ rfl)
  generalize w8.setCell ⟨q, 2, none⟩ (.int .i64 (X4.toNat : Int)) = w9 at *
  clear H8 k8 f8
  have hq9 := H9.out.var.lt
  refine (rText _ d g _ _ H9.out.rd).mono ?_
  rintro r w10 ⟨A10, c10, rfl, ho, ha⟩
  have H10 := Lib.hid (H9.out.after ha)
  have s9 := H9.out.low.size
  have O10 := Lib.hid ho
  clear ha H9 ho
  have k10 := H10.out.var.cell 3
  have f10 := H10.out.var.free 3
  generalize hX5 : (rtext st4).1 = X5 at *
  generalize hst5 : (rtext st4).2 = st5 at H10
  have HX5 := Lib.hid hX5
  clear hX5 hst5
  have H11 := Lib.hid (H10.out.store 3 (.slice A10 X5.length c10) _ _ _ _ rfl)
  have kc := H11.out.var.cell
  have k0 := kc 0
  have k1 := kc 1
  have k2 := kc 2
  have k3 := kc 3
  have g0 := H11.out.res.cell 0
  have g1 := H11.out.res.cell 1
  have g2 := H11.out.res.cell 2
  have g3 := H11.out.res.cell 3
  have e0 := H11.out.res.free 0
  have e1 := H11.out.res.free 1
  have e2 := H11.out.res.free 2
  have e3 := H11.out.res.free 3
  clear kc
  go_wp2_with fail
  have hpe : parse bs = ⟨X2.setWidth 32, X3.setWidth 32, (X4.toNat : Int), X5⟩ := by
    rw [HP.out, ST1.out, HX2.out, ST2.out, HX3.out, ST3.out, HX4.out, ST4.out, HX5.out]
  have hqb := H10.out.gq
  have hfr : Frm [q, w.heap.size] w10 (((((w10.setCell ⟨q, 3, none⟩ (.slice A10 X5.length c10)).setCell ⟨w.heap.size, 0, none⟩ (.int .u32 ((X2.toNat : Int) % 4294967296))).setCell ⟨w.heap.size, 1, none⟩ (.int .u32 ((X3.toNat : Int) % 4294967296))).setCell ⟨w.heap.size, 2, none⟩ (.int .i64 (X4.toNat : Int))).setCell ⟨w.heap.size, 3, none⟩ (.slice A10 X5.length c10)) :=
    (((((Frm.refl _ _).set (by simp) _).set (by simp) _).set (by simp) _).set (by simp) _).set (by simp) _
  rw [hpe]
  refine bodyPost_ret (v := partV (X2.setWidth 32) (X3.setWidth 32) (X4.toNat : Int) A10 X5.length c10) ?_ rfl ⟨A10, c10, rfl, (O10.out.frm hfr (by simp; omega)).base s9, H10.out.low.trans (hfr.below H10.out.low.size (by simp; omega))⟩
  refine results_cell 2 121 Tryz.results110 ⟨w.heap.size, 0, none⟩ rfl _ ?_
  refine run_loadVar_mid (P := Tryz.prog) _ w.heap.size 0 121 [v32 (X2.setWidth 32), v32 (X3.setWidth 32), .int .i64 (X4.toNat : Int), .slice A10 X5.length c10] _ (Cel.range (t := 121) ?_) Tryz.underlying121 rfl (by kernel_rfl)
  rw [narrow32, narrow32]
  have h11 := ((((H11.out.res.set 0 (v32 (X2.setWidth 32))).set 1 (v32 (X3.setWidth 32))).set 2 (.int .i64 (X4.toNat : Int))).set 3 (.slice A10 X5.length c10))
  exact h11
end Go.Proofs.YtdaknfepcbooeaaGreat.Sector
end
