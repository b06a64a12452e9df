/-
  What the document's own functions for frag come to.
  What the document's own Cut comes to.
  What davitlaw04.knows comes to: true.
-/
import Derived.Test.YtdaknfepcbooeaaGreatMFragB
section
namespace Go.Proofs.YtdaknfepcbooeaaGreat.Frag
open Go.RowKit
set_option linter.unusedVariables false
set_option linter.unusedSimpArgs false

theorem results_cell {P : Program} {fn : Func} {tmps : Array Value} {w : World} (a : Tmp) (t : TypeId) (hr : fn.results = #[.cell a t]) (ad : Addr) (ha : tmps.getD a undef = .pointer (some ad)) (v : Value) (hl : (loadVar t ad).run P w = .ok v w) :
    (results fn tmps).run P w = .ok v w := by
  unfold results
  rw [hr]
  simp only [List.mapM_toArray, List.mapM_cons, List.mapM_nil, ha, asAddr]
  simp [hl]
theorem load_ref {w : World} {g : Nat} {a b c d : Value} (h : Cel w g 100 [a, b, c, d]) : (loadVar 100 ⟨g, 0, none⟩).run Tryz.prog w = .ok (.agg #[a, b, c, d]) w := by
  have c0 := h.cell 0
  have c1 := h.cell 1
  have c2 := h.cell 2
  have c3 := h.cell 3
  go_simp

theorem toStr {w : World} {B : Nat} {A : Option Addr} {n : Nat} {bs : List (BitVec 8)} (h : Bs w B A n bs) (c : Nat) : (convert 44 9 (.slice A n c)).run Tryz.prog w = .ok (.string (str bs)) w :=
  Bp.string (Bs.bp h) c Tryz.underlying44 Tryz.underlying5 Tryz.underlying9

/-- A slice of records. -/
structure Rd (w : World) (B : Nat) (A : Option Addr) (n : Nat) (rs : List (List (BitVec 8))) : Prop where
  len : rs.length = n
  at_ : ∀ i b, rs[i]? = some b → ∃ ad Ai ci, A = some ad ∧ ad.block < B ∧ w.cell? (ad.add i) = some (.slice Ai b.length ci) ∧ Bs w B Ai b.length b
theorem Rd.below {w w' : World} {B n : Nat} {A : Option Addr} {rs : List (List (BitVec 8))} (h : Rd w B A n rs) (hb : Below B w w') : Rd w' B A n rs :=
  ⟨h.len, fun i b hi => by
    obtain ⟨ad, Ai, ci, hA, hl, hc, hs⟩ := h.at_ i b hi
    exact ⟨ad, Ai, ci, hA, hl, (hb.cell (by rw [add_block]; exact hl)).trans hc, hs.below hb⟩⟩
theorem Rd.more {w : World} {B B' n : Nat} {A : Option Addr} {rs : List (List (BitVec 8))} (h : Rd w B A n rs) (hB : B ≤ B') : Rd w B' A n rs :=
  ⟨h.len, fun i b hi => by
    obtain ⟨ad, Ai, ci, hA, hl, hc, hs⟩ := h.at_ i b hi
    exact ⟨ad, Ai, ci, hA, by omega, hc, hs.more hB⟩⟩
theorem Rd.of_own {w : World} {base n c : Nat} {A : Option Addr} {rs : List Rv} (h : w.ownsRow base 44 1 (.slice A n c) n (rs.map Rv.val)) (hb : ∀ x ∈ rs, By w x.A x.bs.length x.bs) : Rd w w.heap.size A n (rs.map (·.bs)) := by
  have hl : rs.length = n := by simpa using h.1
  refine ⟨by rw [List.length_map, hl], fun i b hi => ?_⟩
  rw [List.getElem?_map] at hi
  obtain ⟨x, hx, rfl⟩ := Option.map_eq_some_iff.1 hi
  have hil : i < n := by
    rw [← hl]; exact (List.getElem?_eq_some_iff.1 hx).1
  obtain ⟨g, cap, hv, hbg, hlt⟩ := h.form (by omega)
  have hA : A = some ⟨g, 0, none⟩ := by injection hv
  subst hA
  refine ⟨_, x.A, x.c, rfl, hlt, ?_, (hb x (List.mem_of_getElem? hx)).rd⟩
  rw [add_row]
  have := h.cells (g := g) rfl i x.val (by rw [List.getElem?_map, hx]; rfl)
  rwa [add_row] at this

set_option maxRecDepth 100000 in
set_option maxHeartbeats 2000000 in
theorem refSame (A1 A2 : Option Addr) (n c1 c2 : Nat) (rs : List (List (BitVec 8))) (B : Nat) (w : World) (h1 : Rd w B A1 n rs) (h2 : Rd w B A2 n rs) (hB : B ≤ w.heap.size) (hn : n ≤ 4096) :
    Calls Tryz.prog 23 #[.slice A1 n c1, .slice A2 n c2] w fun r w' => r = .returned (.bool true) ∧ Below w.heap.size w w' := by
  have H1 := Lib.hid h1
  have H2 := Lib.hid h2
  clear h1 h2
  go_enter Tryz.func23, Tryz.ntmps23
  go_wp2_with fail
  go_loopw [5] (fun i wr => ∃ k : Nat, k ≤ n ∧ i = .int .i64 (k : Int) ∧ Below w.heap.size w wr) (fun i _ => n - (intOf i).toNat)
  case atStart => exact ⟨0, Nat.zero_le _, rfl, Below.refl _ _⟩
  case round =>
    obtain ⟨k, hk, rfl, hb⟩ := hrel
    have hkm : k ≤ 4096 := by omega
    by_cases hlt : k < n
    · obtain ⟨b, hbk⟩ : ∃ b, rs[k]? = some b := ⟨_, List.getElem?_eq_getElem (by rw [H1.out.len]; exact hlt)⟩
      obtain ⟨ad1, B1, d1, rfl, l1, k1, s1⟩ := (H1.out.below (hb.mono hB)).at_ k _ hbk
      obtain ⟨ad2, B2, d2, rfl, l2, k2, s2⟩ := (H2.out.below (hb.mono hB)).at_ k _ hbk
      have q1 := toStr s1.drew d1
      have q2 := toStr s2.drew d2
      have k1' : wr.drew.cell? (ad1.add k) = _ := k1
      have k2' : wr.drew.cell? (ad2.add k) = _ := k2
      clear s1 s2 hbk l1 l2
      generalize str b = sb at *
      generalize b.length = m at *
      go_wp2_with fail
      go_region
      all_goals go_wp2_with fail
      exact ⟨⟨k + 1, by omega, by go_num, hb.drew⟩, by simp [intOf]; omega⟩
    · obtain rfl : k = n := by omega
      go_wp2_with fail
      go_ret
      exact ⟨rfl, hb⟩
end Go.Proofs.YtdaknfepcbooeaaGreat.Frag
end

section
namespace Go.Proofs.YtdaknfepcbooeaaGreat.Frag
open Go.RowKit
set_option linter.unusedVariables false
set_option linter.unusedSimpArgs false

def headF (h : Bool) : Int := if h then 1 else 0
/-- What the document's Cut says. -/
def CutSaysP (w : World) (pq : Nat → Prop) (ep sq : BitVec 32) (h : Bool) (bs : List (BitVec 8)) (r : Ending) (w' : World) : Prop :=
  ∃ (A' : Option Addr) (m c' : Nat) (xs : List Pv), r = .returned (.slice A' m c') ∧ xs.map (·.p) = parts ep sq (pcs (headF h) bs) ∧ m = xs.length ∧
    w'.ownsRow w.heap.size 100 4 (.slice A' m c') m (flat xs) ∧ (∀ x ∈ xs, Bp w' pq x.A x.p.body.length x.p.body) ∧ Below w.heap.size w w'

theorem CutSaysP.one {A : Option Addr} {n c : Nat} {ep sq : BitVec 32} {h : Bool} {bs : List (BitVec 8)} {pq : Nat → Prop} {w : World} (hbs : Bp w pq A n bs) (hB : ∀ k, pq k → k < w.heap.size) (hn : n ≤ 493) (o : Obj) (f : Int) (hf : f = headF h + 2) :
    CutSaysP w pq ep sq h bs (.returned (.slice (some ⟨w.heap.size + 1, 0, none⟩) 1 1)) ((w.alloc o).alloc (.cells #[v32 ep, v32 sq, .int .i64 f, .slice A n c] 100)) := by
  have hl := hbs.len
  subst hl
  refine ⟨_, 1, 1, [⟨⟨ep, sq, f, bs⟩, A, c⟩], rfl, ?_, rfl, ?_, ?_, ((Below.refl _ _).alloc (Nat.le_refl _) _).alloc (by simp) _⟩
  · rw [pcs_last hn, parts, parts, hf]; rfl
  · have := World.ownsRow_lit (base := w.heap.size) (e := 100) (size := 4) (w.alloc o) #[v32 ep, v32 sq, .int .i64 f, .slice A bs.length c] 1 (by simp) (by decide) rfl
    simp only [World.size_alloc] at this
    exact this
  · intro x hx
    rw [List.mem_singleton.1 hx]
    exact hbs.below (((Below.refl _ _).alloc (Nat.le_refl _) _).alloc (by simp) _) hB

set_option maxRecDepth 100000 in
set_option maxHeartbeats 2000000 in
theorem refCut_last (A : Option Addr) (n c : Nat) (ep sq : BitVec 32) (h : Bool) (bs : List (BitVec 8)) (pq : Nat → Prop) (w : World) (hbs : Bp w pq A n bs) (hB : ∀ k, pq k → k < w.heap.size) (hn : n ≤ 493) :
    Calls Tryz.prog 84 #[.slice A n c, v32 ep, v32 sq, .bool h] w (CutSaysP w pq ep sq h bs) := by
  have HB := Lib.hid hbs
  clear hbs
  cases h with
  | true =>
    go_enter Tryz.func84, Tryz.ntmps84
    go_wp2_with fail
    go_ret
    exact CutSaysP.one HB.out hB hn _ 3 rfl
  | false =>
    go_enter Tryz.func84, Tryz.ntmps84
    go_wp2_with fail
    go_ret
    exact CutSaysP.one HB.out hB hn _ 2 rfl

theorem infoRef : (Tryz.prog.info? 100).map (fun i => (i.zero, i.size, i.bytes)) = some (some (.agg #[.int .u32 0, .int .u32 0, .int .i64 0, .slice none 0 0]), 4, 40) := by kernel_rfl
theorem xs_pos {xs : List Pv} {ep sq : BitVec 32} {f : Int} {bs : List (BitVec 8)} (h : xs.map (·.p) = parts ep sq (pcs f bs)) : 0 < xs.length := by
  have := congrArg List.length h
  rw [List.length_map, parts_length] at this
  rw [this]; exact pcs_length_pos _ _
theorem xs_le {xs : List Pv} {ep sq : BitVec 32} {f : Int} {bs : List (BitVec 8)} (h : xs.map (·.p) = parts ep sq (pcs f bs)) (hb : bs.length ≤ 9860) : xs.length ≤ 21 := by
  have := congrArg List.length h
  rw [List.length_map, parts_length] at this
  have h2 := pcs_length_le f bs
  rw [this]
  omega
theorem From.low {w W V : World} {B : Nat} (h : Below w.heap.size w W) (hV : From W V) (hB : B ≤ w.heap.size) : Below B w V := (h.mono hB).trans (hV.mono (Nat.le_trans hB h.size))
theorem CutSaysP.more {n c : Nat} {ad : Addr} {ep sq sq1 : BitVec 32} {h : Bool} {bs : List (BitVec 8)} {pq : Nat → Prop} {w w8 : World} (hbs : Bp w pq (some ad) n bs) (hq : sq + 1#32 = sq1) (hn : 493 < n) (f : Int) (hf : headF h = f) {xs : List Pv} {A8 : Option Addr} {c8 : Nat}
    (hp : xs.map (·.p) = parts ep sq1 (pcs (headF false) (bs.drop 493))) (ho : w8.ownsRow w.heap.size 100 4 (.slice A8 (1 + xs.length) c8) (1 + xs.length) ([v32 ep, v32 sq, .int .i64 f, .slice (some ad) 493 c] ++ flat xs))
    (hb : ∀ x ∈ xs, Bp w8 pq x.A x.p.body.length x.p.body) (hl : Below w.heap.size w w8) (hB : ∀ k, pq k → k < w.heap.size) : CutSaysP w pq ep sq h bs (.returned (.slice A8 (1 + xs.length) c8)) w8 := by
  have hbl := hbs.len
  have h493 : (bs.take 493).length = 493 := by rw [List.length_take]; omega
  have ho' : w8.ownsRow w.heap.size 100 4 (.slice A8 (1 + xs.length) c8) (1 + xs.length) (flat (⟨⟨ep, sq, f, bs.take 493⟩, some ad, c⟩ :: xs)) := by
    show w8.ownsRow _ _ _ _ _ ([v32 ep, v32 sq, .int .i64 f, .slice (some ad) (bs.take 493).length c] ++ flat xs)
    rw [h493]
    exact ho
  refine ⟨A8, _, c8, ⟨⟨ep, sq, f, bs.take 493⟩, some ad, c⟩ :: xs, rfl, ?_, by rw [List.length_cons]; omega, ho', ?_, hl⟩
  · rw [pcs_more (by omega), parts, List.map_cons, hp, hq, hf]
    rfl
  · intro x hx
    rcases List.mem_cons.1 hx with rfl | hx
    · show Bp w8 pq (some ad) (bs.take 493).length (bs.take 493)
      rw [h493]
      exact Bp.below (hbs.take (by omega)) hl hB
    · exact hb x hx

set_option maxRecDepth 100000 in
set_option maxHeartbeats 2000000 in
theorem refCut_more (A : Option Addr) (n c : Nat) (ep sq : BitVec 32) (h : Bool) (bs : List (BitVec 8)) (pq : Nat → Prop) (w : World) (hbs : Bp w pq A n bs) (hB : ∀ k, pq k → k < w.heap.size) (hn : 493 < n) (hnc : n ≤ c) (hc : c ≤ maxLen) (hn9 : n ≤ 9860)
    (ih : ∀ (A' : Option Addr) (c' : Nat) (W : World), Bp W pq A' (n - 493) (bs.drop 493) → (∀ k, pq k → k < W.heap.size) → n - 493 ≤ c' → c' ≤ maxLen →
      Calls Tryz.prog 84 #[.slice A' (n - 493) c', v32 ep, v32 (sq + 1#32), .bool false] W (CutSaysP W pq ep (sq + 1#32) false (bs.drop 493))) :
    Calls Tryz.prog 84 #[.slice A n c, v32 ep, v32 sq, .bool h] w (CutSaysP w pq ep sq h bs) := by
  obtain ⟨ad, rfl, hbl, hcell⟩ := hbs.2 (by omega)
  have HB := Lib.hid hbs
  have hcc := hbs.cut (k := 493) (cap := c) (by omega) hnc
  rw [if_neg (by omega)] at hcc
  have HC := Lib.hid hcc
  have IH := Lib.hid ih
  clear hbs hcc hcell hbl ih
  obtain ⟨i0, hi, hz0, hz1, hz2⟩ := info_parts infoRef
  have hdl : (bs.drop 493).length ≤ 9860 := by rw [List.length_drop, HB.out.len]; omega
  have hq : (((sq.toNat : Int) + 1) % 4294967296) = ((sq + 1#32).toNat : Int) := by
    rw [BitVec.toNat_add, show (1#32).toNat = 1 from rfl]
    omega
  generalize hsq1 : sq + 1#32 = sq1 at *
  have HSQ := Lib.hid hsq1
  clear hsq1
  unfold maxLen at hc
  cases h with
  | true =>
    go_enter Tryz.func84, Tryz.ntmps84
    go_wp2_with fail
    have hcW := Cel.new w 100 [v32 ep, v32 sq, .int .i64 1, .slice (some ad) 493 c]
    have hlW : Below w.heap.size w (w.alloc (.cells #[v32 ep, v32 sq, .int .i64 1, .slice (some ad) 493 c] 100)) := (Below.refl _ _).alloc (Nat.le_refl _) _
    have hsW : (w.alloc (.cells #[v32 ep, v32 sq, .int .i64 1, .slice (some ad) 493 c] 100)).heap.size = w.heap.size + 1 := by simp
    have HCW := Lib.hid hcW
    have HLW := Lib.hid hlW
    clear hcW hlW
    generalize hWW : w.alloc (.cells #[v32 ep, v32 sq, .int .i64 1, .slice (some ad) 493 c] 100) = W at *
    refine wp_region_held_drew (S := From W) (by kernel_rfl) (From.self _).drew (fun hH => ?_)
    refine wpAnyH_take (i := 0) (v := .agg #[v32 ep, v32 sq, .int .i64 1, .slice (some ad) 493 c]) rfl (by kernel_rfl) (by kernel_rfl) (by kernel_rfl) (fun _ _ _ h => h) (Or.inl ⟨by rfl, ?_⟩) hH ?_
    · intro V hV; have hcv := Cel.below HCW.out hV HCW.out.lt; have k0 := hcv.cell 0; have k1 := hcv.cell 1; have k2 := hcv.cell 2; have k3 := hcv.cell 3; clear hcv; go_simp
    try simp only [Act.put, List.setIfInBounds_toArray, List.set_cons_zero, List.set_cons_succ, List.getElem_toArray, List.getElem_cons_succ, List.getElem_cons_zero]
    refine wpAnyH_take (i := 2) (v := .slice (some ad) n c) rfl (by kernel_rfl) (by kernel_rfl) (by kernel_rfl) (fun _ _ _ h => h) (Or.inl ⟨by rfl, ?_⟩) hH ?_
    · intro V hV; go_simp
    try simp only [Act.put, List.setIfInBounds_toArray, List.set_cons_zero, List.set_cons_succ, List.getElem_toArray, List.getElem_cons_succ, List.getElem_cons_zero]
    refine wpAnyH_take (i := 3) (v := .slice (some (ad.add 493)) (n - 493) (c - 493)) rfl (by kernel_rfl) (by kernel_rfl) (by kernel_rfl) (fun _ _ _ h => h) (Or.inl ⟨by rfl, ?_⟩) hH ?_
    · intro V hV; go_simp; rw [if_pos (by omega), if_neg (by omega)]
    try simp only [Act.put, List.setIfInBounds_toArray, List.set_cons_zero, List.set_cons_succ, List.getElem_toArray, List.getElem_cons_succ, List.getElem_cons_zero]
    refine wpAnyH_take (i := 4) (v := v32 ep) rfl (by kernel_rfl) (by kernel_rfl) (by kernel_rfl) (fun _ _ _ h => h) (Or.inl ⟨by rfl, ?_⟩) hH ?_
    · intro V hV; go_simp
    try simp only [Act.put, List.setIfInBounds_toArray, List.set_cons_zero, List.set_cons_succ, List.getElem_toArray, List.getElem_cons_succ, List.getElem_cons_zero]
    refine wpAnyH_take (i := 5) (v := v32 sq) rfl (by kernel_rfl) (by kernel_rfl) (by kernel_rfl) (fun _ _ _ h => h) (Or.inl ⟨by rfl, ?_⟩) hH ?_
    · intro V hV; go_simp
    try simp only [Act.put, List.setIfInBounds_toArray, List.set_cons_zero, List.set_cons_succ, List.getElem_toArray, List.getElem_cons_succ, List.getElem_cons_zero]
    refine wpAnyH_take (i := 6) (v := v32 sq1) rfl (by kernel_rfl) (by kernel_rfl) (by kernel_rfl) (fun _ _ _ h => h) (Or.inl ⟨by rfl, ?_⟩) hH ?_
    · intro V hV; go_simp; rw [IntKind.wrap_u32]; exact hq
    try simp only [Act.put, List.setIfInBounds_toArray, List.set_cons_zero, List.set_cons_succ, List.getElem_toArray, List.getElem_cons_succ, List.getElem_cons_zero]
    refine wpAnyH_ready (rs := [1, 7]) (by kernel_rfl) (by simp) (AllReadyH.cons rfl (fun K hK => ?_) (AllReadyH.cons rfl (fun K hK => ?_) AllReadyH.nil))
    · go_simp
      refine hK.out _ _ (hH.alloc _) (fun hH1 => ?_)
      clear hK K
      try simp only [Act.put, List.setIfInBounds_toArray, List.set_cons_zero, List.set_cons_succ, List.getElem_toArray, List.getElem_cons_succ, List.getElem_cons_zero]
      refine wpAnyH_ready (rs := [7]) (by kernel_rfl) (by simp) (AllReadyH.cons rfl (fun K hK => ?_) AllReadyH.nil)
      go_simp
      refine (IH.out (some (ad.add 493)) (c - 493) _ (Bp.below HC.out (From.low HLW.out hH1 (Nat.le_refl _)) hB) (fun k hk => Nat.lt_of_lt_of_le (hB k hk) (by have := hH1.size; omega)) (by omega) (by unfold maxLen; omega)).mono ?_
      rintro r w7 ⟨A7, m7, c7, xs, rfl, hp, rfl, ho, hbb, hb7⟩
      go_wp2_with fail
      refine hK.out _ _ (hH1.call hb7) (fun hH7 => ?_)
      clear hK K
      try simp only [Act.put, List.setIfInBounds_toArray, List.set_cons_zero, List.set_cons_succ, List.getElem_toArray, List.getElem_cons_succ, List.getElem_cons_zero]
      refine wpAnyH_ready (rs := [8]) (by kernel_rfl) (by simp) (AllReadyH.cons rfl (fun K hK => ?_) AllReadyH.nil)
      rw [if_pos (by rfl)]
      have hlit := World.ownsRow_lit (base := w.heap.size) (e := 100) (size := 4) W.drew #[v32 ep, v32 sq, .int .i64 1, .slice (some ad) 493 c] 1 (by simp; omega) (by decide) rfl
      rw [show W.drew.heap.size = w.heap.size + 1 from hsW] at hlit
      obtain ⟨g7, cap7, hv7, hg7, hl7⟩ := ho.form (xs_pos hp)
      have hA7 : A7 = some ⟨g7, 0, none⟩ := by injection hv7
      subst hA7
      refine wp_append_row _ _ _ 103 rfl w.heap.size 100 i0 _ 4 40 Tryz.underlying103 hi hz0 hz1 hz2 rfl (by decide) (.slice (some ⟨w.heap.size + 1, 0, none⟩) 1 1) 1 [v32 ep, v32 sq, .int .i64 1, .slice (some ad) 493 c] rfl (own_below hlit hb7) ⟨g7, 0, none⟩ xs.length c7 (flat xs) rfl (flat_length xs) (ho.cells (g := g7) rfl) (flat_one xs) (by have := xs_le hp hdl; unfold maxLen; omega) (by have := xs_le hp hdl; omega) (by have := hH7.size; omega) (by omega) ?_
      intro A8 c8 w8 ho8 hg8
      have hb8 : Below w.heap.size w w8 := (HLW.out.trans (hH7.mono (by omega))).grown hg8 (by have := hH7.size; omega) (by intro k e; simp [Value.ownBlock] at e; omega)
      have hb78 : Below w.heap.size w7 w8 := (Below.refl _ _).grown hg8 (by have := hH7.size; omega) (by intro k e; simp [Value.ownBlock] at e; omega)
      refine hK.out _ _ (hH7.grown hg8 hH7.size (by intro k e; simp [Value.ownBlock] at e; omega)) (fun hH8 => ?_)
      clear hK K
      try simp only [Act.put, List.setIfInBounds_toArray, List.set_cons_zero, List.set_cons_succ, List.getElem_toArray, List.getElem_cons_succ, List.getElem_cons_zero]
      refine wpAnyH_ready (rs := [9]) (by kernel_rfl) (by simp) (AllReadyH.cons rfl (fun K hK => ?_) AllReadyH.nil)
      go_simp
      refine hK.out _ _ hH8 (fun hH9 => ?_)
      clear hK K
      try simp only [Act.put, List.setIfInBounds_toArray, List.set_cons_zero, List.set_cons_succ, List.getElem_toArray, List.getElem_cons_succ, List.getElem_cons_zero]
      refine wpAnyH_done (by kernel_rfl) ?_ _
      go_wp2_with fail
      go_ret
      exact CutSaysP.more HB.out HSQ.out hn 1 rfl hp ho8 (fun x hx => (hbb x hx).below hb78 hB) hb8 hB
    · go_simp
      refine (IH.out (some (ad.add 493)) (c - 493) _ (Bp.below HC.out (From.low HLW.out hH (Nat.le_refl _)) hB) (fun k hk => Nat.lt_of_lt_of_le (hB k hk) (by have := hH.size; omega)) (by omega) (by unfold maxLen; omega)).mono ?_
      rintro r w7 ⟨A7, m7, c7, xs, rfl, hp, rfl, ho, hbb, hb7⟩
      go_wp2_with fail
      refine hK.out _ _ (hH.call hb7) (fun hH7 => ?_)
      clear hK K
      try simp only [Act.put, List.setIfInBounds_toArray, List.set_cons_zero, List.set_cons_succ, List.getElem_toArray, List.getElem_cons_succ, List.getElem_cons_zero]
      refine wpAnyH_ready (rs := [1]) (by kernel_rfl) (by simp) (AllReadyH.cons rfl (fun K hK => ?_) AllReadyH.nil)
      go_simp
      refine hK.out _ _ (hH7.alloc _) (fun hH1 => ?_)
      clear hK K
      try simp only [Act.put, List.setIfInBounds_toArray, List.set_cons_zero, List.set_cons_succ, List.getElem_toArray, List.getElem_cons_succ, List.getElem_cons_zero]
      refine wpAnyH_ready (rs := [8]) (by kernel_rfl) (by simp) (AllReadyH.cons rfl (fun K hK => ?_) AllReadyH.nil)
      rw [if_pos (by rfl)]
      have hlit := World.ownsRow_lit (base := w.heap.size) (e := 100) (size := 4) w7 #[v32 ep, v32 sq, .int .i64 1, .slice (some ad) 493 c] 1 (by have := hH7.size; omega) (by decide) rfl
      obtain ⟨g7, cap7, hv7, hg7, hl7⟩ := ho.form (xs_pos hp)
      have hA7 : A7 = some ⟨g7, 0, none⟩ := by injection hv7
      subst hA7
      refine wp_append_row _ _ _ 103 rfl w.heap.size 100 i0 _ 4 40 Tryz.underlying103 hi hz0 hz1 hz2 rfl (by decide) (.slice (some ⟨w7.heap.size, 0, none⟩) 1 1) 1 [v32 ep, v32 sq, .int .i64 1, .slice (some ad) 493 c] rfl hlit ⟨g7, 0, none⟩ xs.length c7 (flat xs) rfl (flat_length xs) ((ho.alloc _).cells (g := g7) rfl) (flat_one xs) (by have := xs_le hp hdl; unfold maxLen; omega) (by have := xs_le hp hdl; omega) (by have := hH7.size; simp; omega) (by omega) ?_
      intro A8 c8 w8 ho8 hg8
      have hb8 : Below w.heap.size w w8 := (HLW.out.trans (hH1.mono (by omega))).grown hg8 (by have := hH1.size; omega) (by have := hH7.size; intro k e; simp [Value.ownBlock] at e; omega)
      have hb78 : Below w.heap.size w7 w8 := ((Below.refl _ _).alloc (by have := hH7.size; omega) _).grown hg8 (by have := hH7.size; simp; omega) (by have := hH7.size; intro k e; simp [Value.ownBlock] at e; omega)
      refine hK.out _ _ (hH1.grown hg8 hH1.size (by have := hH7.size; intro k e; simp [Value.ownBlock] at e; omega)) (fun hH8 => ?_)
      clear hK K
      try simp only [Act.put, List.setIfInBounds_toArray, List.set_cons_zero, List.set_cons_succ, List.getElem_toArray, List.getElem_cons_succ, List.getElem_cons_zero]
      refine wpAnyH_ready (rs := [9]) (by kernel_rfl) (by simp) (AllReadyH.cons rfl (fun K hK => ?_) AllReadyH.nil)
      go_simp
      refine hK.out _ _ hH8 (fun hH9 => ?_)
      clear hK K
      try simp only [Act.put, List.setIfInBounds_toArray, List.set_cons_zero, List.set_cons_succ, List.getElem_toArray, List.getElem_cons_succ, List.getElem_cons_zero]
      refine wpAnyH_done (by kernel_rfl) ?_ _
      go_wp2_with fail
      go_ret
      exact CutSaysP.more HB.out HSQ.out hn 1 rfl hp ho8 (fun x hx => (hbb x hx).below hb78 hB) hb8 hB
  | false =>
    go_enter Tryz.func84, Tryz.ntmps84
    go_wp2_with fail
    have hcW := Cel.new w 100 [v32 ep, v32 sq, .int .i64 0, .slice (some ad) 493 c]
    have hlW : Below w.heap.size w (w.alloc (.cells #[v32 ep, v32 sq, .int .i64 0, .slice (some ad) 493 c] 100)) := (Below.refl _ _).alloc (Nat.le_refl _) _
    have hsW : (w.alloc (.cells #[v32 ep, v32 sq, .int .i64 0, .slice (some ad) 493 c] 100)).heap.size = w.heap.size + 1 := by simp
    have HCW := Lib.hid hcW
    have HLW := Lib.hid hlW
    clear hcW hlW
    generalize hWW : w.alloc (.cells #[v32 ep, v32 sq, .int .i64 0, .slice (some ad) 493 c] 100) = W at *
    refine wp_region_held_drew (S := From W) (by kernel_rfl) (From.self _).drew (fun hH => ?_)
    refine wpAnyH_take (i := 0) (v := .agg #[v32 ep, v32 sq, .int .i64 0, .slice (some ad) 493 c]) rfl (by kernel_rfl) (by kernel_rfl) (by kernel_rfl) (fun _ _ _ h => h) (Or.inl ⟨by rfl, ?_⟩) hH ?_
    · intro V hV; have hcv := Cel.below HCW.out hV HCW.out.lt; have k0 := hcv.cell 0; have k1 := hcv.cell 1; have k2 := hcv.cell 2; have k3 := hcv.cell 3; clear hcv; go_simp
    try simp only [Act.put, List.setIfInBounds_toArray, List.set_cons_zero, List.set_cons_succ, List.getElem_toArray, List.getElem_cons_succ, List.getElem_cons_zero]
    refine wpAnyH_take (i := 2) (v := .slice (some ad) n c) rfl (by kernel_rfl) (by kernel_rfl) (by kernel_rfl) (fun _ _ _ h => h) (Or.inl ⟨by rfl, ?_⟩) hH ?_
    · intro V hV; go_simp
    try simp only [Act.put, List.setIfInBounds_toArray, List.set_cons_zero, List.set_cons_succ, List.getElem_toArray, List.getElem_cons_succ, List.getElem_cons_zero]
    refine wpAnyH_take (i := 3) (v := .slice (some (ad.add 493)) (n - 493) (c - 493)) rfl (by kernel_rfl) (by kernel_rfl) (by kernel_rfl) (fun _ _ _ h => h) (Or.inl ⟨by rfl, ?_⟩) hH ?_
    · intro V hV; go_simp; rw [if_pos (by omega), if_neg (by omega)]
    try simp only [Act.put, List.setIfInBounds_toArray, List.set_cons_zero, List.set_cons_succ, List.getElem_toArray, List.getElem_cons_succ, List.getElem_cons_zero]
    refine wpAnyH_take (i := 4) (v := v32 ep) rfl (by kernel_rfl) (by kernel_rfl) (by kernel_rfl) (fun _ _ _ h => h) (Or.inl ⟨by rfl, ?_⟩) hH ?_
    · intro V hV; go_simp
    try simp only [Act.put, List.setIfInBounds_toArray, List.set_cons_zero, List.set_cons_succ, List.getElem_toArray, List.getElem_cons_succ, List.getElem_cons_zero]
    refine wpAnyH_take (i := 5) (v := v32 sq) rfl (by kernel_rfl) (by kernel_rfl) (by kernel_rfl) (fun _ _ _ h => h) (Or.inl ⟨by rfl, ?_⟩) hH ?_
    · intro V hV; go_simp
    try simp only [Act.put, List.setIfInBounds_toArray, List.set_cons_zero, List.set_cons_succ, List.getElem_toArray, List.getElem_cons_succ, List.getElem_cons_zero]
    refine wpAnyH_take (i := 6) (v := v32 sq1) rfl (by kernel_rfl) (by kernel_rfl) (by kernel_rfl) (fun _ _ _ h => h) (Or.inl ⟨by rfl, ?_⟩) hH ?_
    · intro V hV; go_simp; rw [IntKind.wrap_u32]; exact hq
    try simp only [Act.put, List.setIfInBounds_toArray, List.set_cons_zero, List.set_cons_succ, List.getElem_toArray, List.getElem_cons_succ, List.getElem_cons_zero]
    refine wpAnyH_ready (rs := [1, 7]) (by kernel_rfl) (by simp) (AllReadyH.cons rfl (fun K hK => ?_) (AllReadyH.cons rfl (fun K hK => ?_) AllReadyH.nil))
    · go_simp
      refine hK.out _ _ (hH.alloc _) (fun hH1 => ?_)
      clear hK K
      try simp only [Act.put, List.setIfInBounds_toArray, List.set_cons_zero, List.set_cons_succ, List.getElem_toArray, List.getElem_cons_succ, List.getElem_cons_zero]
      refine wpAnyH_ready (rs := [7]) (by kernel_rfl) (by simp) (AllReadyH.cons rfl (fun K hK => ?_) AllReadyH.nil)
      go_simp
      refine (IH.out (some (ad.add 493)) (c - 493) _ (Bp.below HC.out (From.low HLW.out hH1 (Nat.le_refl _)) hB) (fun k hk => Nat.lt_of_lt_of_le (hB k hk) (by have := hH1.size; omega)) (by omega) (by unfold maxLen; omega)).mono ?_
      rintro r w7 ⟨A7, m7, c7, xs, rfl, hp, rfl, ho, hbb, hb7⟩
      go_wp2_with fail
      refine hK.out _ _ (hH1.call hb7) (fun hH7 => ?_)
      clear hK K
      try simp only [Act.put, List.setIfInBounds_toArray, List.set_cons_zero, List.set_cons_succ, List.getElem_toArray, List.getElem_cons_succ, List.getElem_cons_zero]
      refine wpAnyH_ready (rs := [8]) (by kernel_rfl) (by simp) (AllReadyH.cons rfl (fun K hK => ?_) AllReadyH.nil)
      rw [if_pos (by rfl)]
      have hlit := World.ownsRow_lit (base := w.heap.size) (e := 100) (size := 4) W.drew #[v32 ep, v32 sq, .int .i64 0, .slice (some ad) 493 c] 1 (by simp; omega) (by decide) rfl
      rw [show W.drew.heap.size = w.heap.size + 1 from hsW] at hlit
      obtain ⟨g7, cap7, hv7, hg7, hl7⟩ := ho.form (xs_pos hp)
      have hA7 : A7 = some ⟨g7, 0, none⟩ := by injection hv7
      subst hA7
      refine wp_append_row _ _ _ 103 rfl w.heap.size 100 i0 _ 4 40 Tryz.underlying103 hi hz0 hz1 hz2 rfl (by decide) (.slice (some ⟨w.heap.size + 1, 0, none⟩) 1 1) 1 [v32 ep, v32 sq, .int .i64 0, .slice (some ad) 493 c] rfl (own_below hlit hb7) ⟨g7, 0, none⟩ xs.length c7 (flat xs) rfl (flat_length xs) (ho.cells (g := g7) rfl) (flat_one xs) (by have := xs_le hp hdl; unfold maxLen; omega) (by have := xs_le hp hdl; omega) (by have := hH7.size; omega) (by omega) ?_
      intro A8 c8 w8 ho8 hg8
      have hb8 : Below w.heap.size w w8 := (HLW.out.trans (hH7.mono (by omega))).grown hg8 (by have := hH7.size; omega) (by intro k e; simp [Value.ownBlock] at e; omega)
      have hb78 : Below w.heap.size w7 w8 := (Below.refl _ _).grown hg8 (by have := hH7.size; omega) (by intro k e; simp [Value.ownBlock] at e; omega)
      refine hK.out _ _ (hH7.grown hg8 hH7.size (by intro k e; simp [Value.ownBlock] at e; omega)) (fun hH8 => ?_)
      clear hK K
      try simp only [Act.put, List.setIfInBounds_toArray, List.set_cons_zero, List.set_cons_succ, List.getElem_toArray, List.getElem_cons_succ, List.getElem_cons_zero]
      refine wpAnyH_ready (rs := [9]) (by kernel_rfl) (by simp) (AllReadyH.cons rfl (fun K hK => ?_) AllReadyH.nil)
      go_simp
      refine hK.out _ _ hH8 (fun hH9 => ?_)
      clear hK K
      try simp only [Act.put, List.setIfInBounds_toArray, List.set_cons_zero, List.set_cons_succ, List.getElem_toArray, List.getElem_cons_succ, List.getElem_cons_zero]
      refine wpAnyH_done (by kernel_rfl) ?_ _
      go_wp2_with fail
      go_ret
      exact CutSaysP.more HB.out HSQ.out hn 0 rfl hp ho8 (fun x hx => (hbb x hx).below hb78 hB) hb8 hB
    · go_simp
      refine (IH.out (some (ad.add 493)) (c - 493) _ (Bp.below HC.out (From.low HLW.out hH (Nat.le_refl _)) hB) (fun k hk => Nat.lt_of_lt_of_le (hB k hk) (by have := hH.size; omega)) (by omega) (by unfold maxLen; omega)).mono ?_
      rintro r w7 ⟨A7, m7, c7, xs, rfl, hp, rfl, ho, hbb, hb7⟩
      go_wp2_with fail
      refine hK.out _ _ (hH.call hb7) (fun hH7 => ?_)
      clear hK K
      try simp only [Act.put, List.setIfInBounds_toArray, List.set_cons_zero, List.set_cons_succ, List.getElem_toArray, List.getElem_cons_succ, List.getElem_cons_zero]
      refine wpAnyH_ready (rs := [1]) (by kernel_rfl) (by simp) (AllReadyH.cons rfl (fun K hK => ?_) AllReadyH.nil)
      go_simp
      refine hK.out _ _ (hH7.alloc _) (fun hH1 => ?_)
      clear hK K
      try simp only [Act.put, List.setIfInBounds_toArray, List.set_cons_zero, List.set_cons_succ, List.getElem_toArray, List.getElem_cons_succ, List.getElem_cons_zero]
      refine wpAnyH_ready (rs := [8]) (by kernel_rfl) (by simp) (AllReadyH.cons rfl (fun K hK => ?_) AllReadyH.nil)
      rw [if_pos (by rfl)]
      have hlit := World.ownsRow_lit (base := w.heap.size) (e := 100) (size := 4) w7 #[v32 ep, v32 sq, .int .i64 0, .slice (some ad) 493 c] 1 (by have := hH7.size; omega) (by decide) rfl
      obtain ⟨g7, cap7, hv7, hg7, hl7⟩ := ho.form (xs_pos hp)
      have hA7 : A7 = some ⟨g7, 0, none⟩ := by injection hv7
      subst hA7
      refine wp_append_row _ _ _ 103 rfl w.heap.size 100 i0 _ 4 40 Tryz.underlying103 hi hz0 hz1 hz2 rfl (by decide) (.slice (some ⟨w7.heap.size, 0, none⟩) 1 1) 1 [v32 ep, v32 sq, .int .i64 0, .slice (some ad) 493 c] rfl hlit ⟨g7, 0, none⟩ xs.length c7 (flat xs) rfl (flat_length xs) ((ho.alloc _).cells (g := g7) rfl) (flat_one xs) (by have := xs_le hp hdl; unfold maxLen; omega) (by have := xs_le hp hdl; omega) (by have := hH7.size; simp; omega) (by omega) ?_
      intro A8 c8 w8 ho8 hg8
      have hb8 : Below w.heap.size w w8 := (HLW.out.trans (hH1.mono (by omega))).grown hg8 (by have := hH1.size; omega) (by have := hH7.size; intro k e; simp [Value.ownBlock] at e; omega)
      have hb78 : Below w.heap.size w7 w8 := ((Below.refl _ _).alloc (by have := hH7.size; omega) _).grown hg8 (by have := hH7.size; simp; omega) (by have := hH7.size; intro k e; simp [Value.ownBlock] at e; omega)
      refine hK.out _ _ (hH1.grown hg8 hH1.size (by have := hH7.size; intro k e; simp [Value.ownBlock] at e; omega)) (fun hH8 => ?_)
      clear hK K
      try simp only [Act.put, List.setIfInBounds_toArray, List.set_cons_zero, List.set_cons_succ, List.getElem_toArray, List.getElem_cons_succ, List.getElem_cons_zero]
      refine wpAnyH_ready (rs := [9]) (by kernel_rfl) (by simp) (AllReadyH.cons rfl (fun K hK => ?_) AllReadyH.nil)
      go_simp
      refine hK.out _ _ hH8 (fun hH9 => ?_)
      clear hK K
      try simp only [Act.put, List.setIfInBounds_toArray, List.set_cons_zero, List.set_cons_succ, List.getElem_toArray, List.getElem_cons_succ, List.getElem_cons_zero]
      refine wpAnyH_done (by kernel_rfl) ?_ _
      go_wp2_with fail
      go_ret
      exact CutSaysP.more HB.out HSQ.out hn 0 rfl hp ho8 (fun x hx => (hbb x hx).below hb78 hB) hb8 hB

theorem refCutP : ∀ (N : Nat) (A : Option Addr) (n c : Nat) (ep sq : BitVec 32) (h : Bool) (bs : List (BitVec 8)) (pq : Nat → Prop) (w : World), n ≤ N → Bp w pq A n bs → (∀ k, pq k → k < w.heap.size) → n ≤ c → c ≤ maxLen → n ≤ 9860 →
    Calls Tryz.prog 84 #[.slice A n c, v32 ep, v32 sq, .bool h] w (CutSaysP w pq ep sq h bs) := by
  intro N
  induction N with
  | zero => exact fun A n c ep sq h bs pq w hN hbs hB _ _ _ => refCut_last A n c ep sq h bs pq w hbs hB (by omega)
  | succ N ih =>
    intro A n c ep sq h bs pq w hN hbs hB hnc hc hn9
    rcases Nat.lt_or_ge 493 n with hn | hn
    · exact refCut_more A n c ep sq h bs pq w hbs hB hn hnc hc hn9 fun A' c' W hW hBW h1 h2 => ih A' (n - 493) c' ep (sq + 1#32) false (bs.drop 493) pq W (by omega) hW hBW h1 h2 (by omega)
    · exact refCut_last A n c ep sq h bs pq w hbs hB hn

/-- What the document's Cut says; the bodies lie below block B. -/
def CutSays (w : World) (B : Nat) (ep sq : BitVec 32) (h : Bool) (bs : List (BitVec 8)) (r : Ending) (w' : World) : Prop :=
  ∃ (A' : Option Addr) (m c' : Nat) (xs : List Pv), r = .returned (.slice A' m c') ∧ xs.map (·.p) = parts ep sq (pcs (headF h) bs) ∧ m = xs.length ∧
    w'.ownsRow w.heap.size 100 4 (.slice A' m c') m (flat xs) ∧ (∀ x ∈ xs, Bs w' B x.A x.p.body.length x.p.body) ∧ Below w.heap.size w w'
theorem refCut (N : Nat) (A : Option Addr) (n c : Nat) (ep sq : BitVec 32) (h : Bool) (bs : List (BitVec 8)) (B : Nat) (w : World) (hN : n ≤ N) (hbs : Bs w B A n bs) (hB : B ≤ w.heap.size) (hnc : n ≤ c) (hc : c ≤ maxLen) (hn9 : n ≤ 9860) :
    Calls Tryz.prog 84 #[.slice A n c, v32 ep, v32 sq, .bool h] w (CutSays w B ep sq h bs) :=
  refCutP N A n c ep sq h bs (fun k => k < B) w hN hbs (fun k hk => Nat.lt_of_lt_of_le hk hB) hnc hc hn9
end Go.Proofs.YtdaknfepcbooeaaGreat.Frag
end

section
namespace Go.Proofs.YtdaknfepcbooeaaGreat.Frag
open Go.RowKit
set_option linter.unusedVariables false
set_option linter.unusedSimpArgs false

theorem Pr.of_own {w : World} {base n c e : Nat} {A : Option Addr} {xs : List Pv} (h : w.ownsRow base e 4 (.slice A n c) n (flat xs)) (hn : xs.length = n) (hb : ∀ x ∈ xs, Bs w w.heap.size x.A x.p.body.length x.p.body) : Pr w w.heap.size A n xs := by
  refine ⟨hn, fun h0 => ?_, hb⟩
  obtain ⟨g, cap, hv, hbg, hlt⟩ := h.form h0
  have hA : A = some ⟨g, 0, none⟩ := by injection hv
  subst hA
  exact ⟨_, rfl, hlt, h.cells (g := g) rfl⟩
theorem own_cap {w : World} {base n c e size : Nat} {A : Option Addr} {us : List Value} (h : w.ownsRow base e size (.slice A n c) n us) : n ≤ c ∧ c ≤ maxLen := by
  rcases h.2 with ⟨hv, _⟩ | ⟨g, cap, cur, hv, _, _, h1, h2, _⟩
  · injection hv with h1 h2 h3
    subst h2 h3
    exact ⟨Nat.le_refl _, Nat.zero_le _⟩
  · injection hv with _ _ h3
    subst h3
    exact ⟨h1, h2⟩
theorem cut_none : cut 1#32 2#32 [] = [⟨1#32, 2#32, 3, []⟩] := by rw [cut, pcs_last (by decide)]; rfl
theorem grp_none1 : grp [(⟨1#32, 2#32, 3, []⟩ : Pt)] = [[⟨1#32, 2#32, 3, []⟩]] := by
  have h : lead true [(⟨1#32, 2#32, 3, []⟩ : Pt)] = 1 := by rfl
  rw [grp_more (by rw [h]; decide), h]
  rw [grp_none (by rfl)]
  rfl

end Go.Proofs.YtdaknfepcbooeaaGreat.Frag
end
