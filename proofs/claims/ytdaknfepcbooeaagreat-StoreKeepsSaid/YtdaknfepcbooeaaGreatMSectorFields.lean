/-
  What sector.fields comes to: what stands ahead of the bytes 0. (Its walk is written out by wip/tools/gen_fields.py.)
-/
import Derived.Test.YtdaknfepcbooeaaGreatMSectorWords
namespace Go.Proofs.YtdaknfepcbooeaaGreat.Sector
open Go.RowKit Go.Proofs.YtdaknfepcbooeaaGreat.Pack
set_option linter.unusedVariables false
set_option linter.unusedSimpArgs false

theorem concat5 (g cap : Nat) (a b c d e : Sl) (w : World) (hc : Cel w g 44 [a.val, b.val, c.val, d.val, e.val]) (h1 : Lo w a.A a.n a.bs) (h2 : Lo w b.A b.n b.bs) (h3 : Lo w c.A c.n c.bs) (h4 : Lo w d.A d.n d.bs) (h5 : Lo w e.A e.n e.bs)
    (N : Nat) (hN : a.n + (b.n + (c.n + (d.n + e.n))) = N) (h0 : 0 < N ∧ N ≤ 1000000) :
    Calls Tryz.prog 145 #[.slice (some ⟨g, 0, none⟩) 5 cap] w fun r w' => ∃ A c', r = .returned (.slice A N c') ∧ Own w' w.heap.size A N c' (a.bs ++ (b.bs ++ (c.bs ++ (d.bs ++ e.bs)))) ∧ Below w.heap.size w w' := by
  have ht : tot [a, b, c, d, e] = N := by simp [tot]; omega
  have h := concat g w.heap.size cap [a, b, c, d, e] w hc (five h1 h2 h3 h4 h5) (Nat.le_refl _) (by omega) (by omega) (by simp)
  rw [ht] at h
  simpa [flat] using h
theorem fields_end {w w1 wC : World} {o : Obj} (h : Below (w.alloc o).heap.size (w.alloc o) w1) (hF : From w1 wC) : Below w.heap.size w wC :=
  (((Below.refl _ _).alloc (Nat.le_refl _) _).trans (h.mono (by simp))).trans (Below.mono hF (by have := h.size; simp at this; omega))

set_option maxRecDepth 100000 in
set_option maxHeartbeats 4000000 in
theorem fields_walk (p : Pt) (B : Nat) (A : Option Addr) (n c : Nat) (w : World) (hbs : Bs w B A n p.body) (hB : B ≤ w.heap.size) (hm : p.may = true) :
    Calls Tryz.prog 124 #[partV p.epoch p.seq p.flags A n c] w fun r w' => ∃ A' c', r = .returned (.slice A' (15 + n) c') ∧ Own w' w.heap.size A' (15 + n) c' (fields p) ∧ Below w.heap.size w w' := by
  have hn : n ≤ 493 := by have := may_body hm; rw [hbs.len] at this; exact this
  obtain ⟨hf0, hf3⟩ := may_flags hm
  have HB := Lib.hid hbs
  have HM := Lib.hid hm
  clear hbs hm
  obtain ⟨e, s, f, body⟩ := p
  simp only at hf0 hf3 HB
  have hcv := fun (W : World) (a : Addr) (n c : Nat) => run_convert_self (P := Tryz.prog) W 44 5 a n c Tryz.underlying44 Tryz.underlying5
  go_enter Tryz.func124, Tryz.ntmps124
  go_wp2_with fail
  refine (textOk B A n c body _ (HB.out.alloc hB _) (by simp; omega) (by omega)).mono ?_
  rintro r w1 ⟨A1, c1, rfl, ho1, hb1⟩
  have hcl := (Cel.new w 121 [v32 e, v32 s, .int .i64 f, .slice A n c]).below hb1 (by simp)
  have k0 := hcl.cell 0
  have k1 := hcl.cell 1
  have k2 := hcl.cell 2
  have hlt := hcl.lt
  have L1 := Lo.own ho1
  have HB1 := Lib.hid hb1
  clear hb1 ho1 hcl
  go_wp2_with fail
  refine wp_region_held_drew (S := fun w' => From w1 w' ∧ w'.cell? ⟨w.heap.size, 0, none⟩ = some (v32 e) ∧ w'.cell? ⟨w.heap.size, 1, none⟩ = some (v32 s) ∧ w'.cell? ⟨w.heap.size, 2, none⟩ = some (.int .i64 f)) (by kernel_rfl) (held k0 k1 k2 hlt (From.self _).drew) (fun hH => ?_)
  refine wpAnyH_take (i := 2) (v := .pointer (some ⟨w.heap.size, 0, none⟩)) rfl (by kernel_rfl) (by kernel_rfl) (by kernel_rfl) (fun _ _ _ h => h) (Or.inl ⟨by rfl, ?_⟩) hH ?_
  · intro W hS; obtain ⟨_, h0, h1, h2⟩ := hS; go_simp
  try simp only [Act.put, List.setIfInBounds_toArray, List.set_cons_zero, List.set_cons_succ, List.getElem_toArray, List.getElem_cons_succ, List.getElem_cons_zero]
  refine wpAnyH_take (i := 3) (v := v32 e) rfl (by kernel_rfl) (by kernel_rfl) (by kernel_rfl) (fun _ _ _ h => h) (Or.inl ⟨by rfl, ?_⟩) hH ?_
  · intro W hS; obtain ⟨_, h0, h1, h2⟩ := hS; go_simp
  try simp only [Act.put, List.setIfInBounds_toArray, List.set_cons_zero, List.set_cons_succ, List.getElem_toArray, List.getElem_cons_succ, List.getElem_cons_zero]
  refine wpAnyH_take (i := 4) (v := .int .u64 (IntKind.u64.wrap (e.toNat : Int))) rfl (by kernel_rfl) (by kernel_rfl) (by kernel_rfl) (fun _ _ _ h => h) (Or.inl ⟨by rfl, ?_⟩) hH ?_
  · intro W hS; obtain ⟨_, h0, h1, h2⟩ := hS; go_simp
  try simp only [Act.put, List.setIfInBounds_toArray, List.set_cons_zero, List.set_cons_succ, List.getElem_toArray, List.getElem_cons_succ, List.getElem_cons_zero]
  refine wpAnyH_take (i := 6) (v := .pointer (some ⟨w.heap.size, 1, none⟩)) rfl (by kernel_rfl) (by kernel_rfl) (by kernel_rfl) (fun _ _ _ h => h) (Or.inl ⟨by rfl, ?_⟩) hH ?_
  · intro W hS; obtain ⟨_, h0, h1, h2⟩ := hS; go_simp
  try simp only [Act.put, List.setIfInBounds_toArray, List.set_cons_zero, List.set_cons_succ, List.getElem_toArray, List.getElem_cons_succ, List.getElem_cons_zero]
  refine wpAnyH_take (i := 7) (v := v32 s) rfl (by kernel_rfl) (by kernel_rfl) (by kernel_rfl) (fun _ _ _ h => h) (Or.inl ⟨by rfl, ?_⟩) hH ?_
  · intro W hS; obtain ⟨_, h0, h1, h2⟩ := hS; go_simp
  try simp only [Act.put, List.setIfInBounds_toArray, List.set_cons_zero, List.set_cons_succ, List.getElem_toArray, List.getElem_cons_succ, List.getElem_cons_zero]
  refine wpAnyH_take (i := 8) (v := .int .u64 (IntKind.u64.wrap (s.toNat : Int))) rfl (by kernel_rfl) (by kernel_rfl) (by kernel_rfl) (fun _ _ _ h => h) (Or.inl ⟨by rfl, ?_⟩) hH ?_
  · intro W hS; obtain ⟨_, h0, h1, h2⟩ := hS; go_simp
  try simp only [Act.put, List.setIfInBounds_toArray, List.set_cons_zero, List.set_cons_succ, List.getElem_toArray, List.getElem_cons_succ, List.getElem_cons_zero]
  refine wpAnyH_take (i := 10) (v := .pointer (some ⟨w.heap.size, 2, none⟩)) rfl (by kernel_rfl) (by kernel_rfl) (by kernel_rfl) (fun _ _ _ h => h) (Or.inl ⟨by rfl, ?_⟩) hH ?_
  · intro W hS; obtain ⟨_, h0, h1, h2⟩ := hS; go_simp
  try simp only [Act.put, List.setIfInBounds_toArray, List.set_cons_zero, List.set_cons_succ, List.getElem_toArray, List.getElem_cons_succ, List.getElem_cons_zero]
  refine wpAnyH_take (i := 11) (v := .int .i64 f) rfl (by kernel_rfl) (by kernel_rfl) (by kernel_rfl) (fun _ _ _ h => h) (Or.inl ⟨by rfl, ?_⟩) hH ?_
  · intro W hS; obtain ⟨_, h0, h1, h2⟩ := hS; go_simp
  try simp only [Act.put, List.setIfInBounds_toArray, List.set_cons_zero, List.set_cons_succ, List.getElem_toArray, List.getElem_cons_succ, List.getElem_cons_zero]
  refine wpAnyH_take (i := 12) (v := .int .u64 (IntKind.u64.wrap f)) rfl (by kernel_rfl) (by kernel_rfl) (by kernel_rfl) (fun _ _ _ h => h) (Or.inl ⟨by rfl, ?_⟩) hH ?_
  · intro W hS; obtain ⟨_, h0, h1, h2⟩ := hS; go_simp
  try simp only [Act.put, List.setIfInBounds_toArray, List.set_cons_zero, List.set_cons_succ, List.getElem_toArray, List.getElem_cons_succ, List.getElem_cons_zero]
  refine wpAnyH_take (i := 14) (v := .slice A1 (2 + n) c1) rfl (by kernel_rfl) (by kernel_rfl) (by kernel_rfl) (fun _ _ _ h => h) (Or.inl ⟨by rfl, ?_⟩) hH ?_
  · intro W hS; obtain ⟨_, h0, h1, h2⟩ := hS; go_simp
  try simp only [Act.put, List.setIfInBounds_toArray, List.set_cons_zero, List.set_cons_succ, List.getElem_toArray, List.getElem_cons_succ, List.getElem_cons_zero]
  refine wpAnyH_ready (rs := [0, 5]) (by kernel_rfl) (by simp) (AllReadyH.cons rfl (fun K hK => ?_) (AllReadyH.cons rfl (fun K hK => ?_) AllReadyH.nil))
  · skip
    go_simp
    have hz := hH.1.size
    refine hK.out _ _ (held k0 k1 k2 hlt (hH.1.alloc _)) (fun hH' => ?_)
    have LM := Lo.drew (Lo.lit w1 5 #[v8 68#8, v8 86#8, v8 84#8, v8 49#8] mark rfl 4 rfl)
    replace L1 := Lo.drew (Lo.alloc (.cells #[v8 68#8, v8 86#8, v8 84#8, v8 49#8] 5) L1)
    clear hK K hH
    have hH := hH'
    clear hH'
    try simp only [Act.put, List.setIfInBounds_toArray, List.set_cons_zero, List.set_cons_succ, List.getElem_toArray, List.getElem_cons_succ, List.getElem_cons_zero]
    refine wpAnyH_ready (rs := [1, 5]) (by kernel_rfl) (by simp) (AllReadyH.cons rfl (fun K hK => ?_) (AllReadyH.cons rfl (fun K hK => ?_) AllReadyH.nil))
    · skip
      go_simp
      refine hK.out _ _ (held k0 k1 k2 hlt (From.mkd hz hH.1)) (fun hH' => ?_)
      replace L1 := Lo.mkd (a := ⟨w1.heap.size, 0, none⟩) L1
      replace LM := Lo.mkd (a := ⟨w1.heap.size, 0, none⟩) LM
      clear hK K hH
      have hH := hH'
      clear hH'
      try simp only [Act.put, List.setIfInBounds_toArray, List.set_cons_zero, List.set_cons_succ, List.getElem_toArray, List.getElem_cons_succ, List.getElem_cons_zero]
      refine wpAnyH_ready (rs := [5]) (by kernel_rfl) (by simp) (AllReadyH.cons rfl (fun K hK => ?_) AllReadyH.nil)
      go_simp
      refine (number_at (e.setWidth 64) 4 (by decide) (by decide) _ _ (wideW e) rfl _).mono ?_
      rintro r wE ⟨AE, cE, rfl, oE, bE⟩
      go_wp2_with fail
      refine hK.out _ _ (held k0 k1 k2 hlt (hH.1.call bE)) (fun hH' => ?_)
      replace L1 := Lo.call bE L1
      replace LM := Lo.call bE LM
      have LE := Lo.own oE
      clear hK K hH
      have hH := hH'
      clear hH'
      try simp only [Act.put, List.setIfInBounds_toArray, List.set_cons_zero, List.set_cons_succ, List.getElem_toArray, List.getElem_cons_succ, List.getElem_cons_zero]
      refine wpAnyH_ready (rs := [9]) (by kernel_rfl) (by simp) (AllReadyH.cons rfl (fun K hK => ?_) AllReadyH.nil)
      go_simp
      refine (number_at (s.setWidth 64) 4 (by decide) (by decide) _ _ (wideW s) rfl _).mono ?_
      rintro r wS ⟨AS, cS, rfl, oS, bS⟩
      go_wp2_with fail
      refine hK.out _ _ (held k0 k1 k2 hlt (hH.1.call bS)) (fun hH' => ?_)
      replace L1 := Lo.call bS L1
      replace LM := Lo.call bS LM
      replace LE := Lo.call bS LE
      have LS := Lo.own oS
      clear hK K hH
      have hH := hH'
      clear hH'
      try simp only [Act.put, List.setIfInBounds_toArray, List.set_cons_zero, List.set_cons_succ, List.getElem_toArray, List.getElem_cons_succ, List.getElem_cons_zero]
      refine wpAnyH_ready (rs := [13]) (by kernel_rfl) (by simp) (AllReadyH.cons rfl (fun K hK => ?_) AllReadyH.nil)
      go_simp
      refine (number_at (BitVec.ofInt 64 f) 1 (by decide) (by decide) _ _ (flagsW hf0 hf3) rfl _).mono ?_
      rintro r wF ⟨AF, cF, rfl, oF, bF⟩
      go_wp2_with fail
      refine hK.out _ _ (held k0 k1 k2 hlt (hH.1.call bF)) (fun hH' => ?_)
      replace L1 := Lo.call bF L1
      replace LM := Lo.call bF LM
      replace LE := Lo.call bF LE
      replace LS := Lo.call bF LS
      have LF := Lo.own oF
      clear hK K hH
      have hH := hH'
      clear hH'
      try simp only [Act.put, List.setIfInBounds_toArray, List.set_cons_zero, List.set_cons_succ, List.getElem_toArray, List.getElem_cons_succ, List.getElem_cons_zero]
      refine wpAnyH_ready (rs := [15]) (by kernel_rfl) (by simp) (AllReadyH.cons rfl (fun K hK => ?_) AllReadyH.nil)
      go_simp
      refine hK.out _ _ (held k0 k1 k2 hlt (hH.1.alloc _)) (fun hH' => ?_)
      clear hK K hH
      have hH := hH'
      clear hH'
      try simp only [Act.put, List.setIfInBounds_toArray, List.set_cons_zero, List.set_cons_succ, List.getElem_toArray, List.getElem_cons_succ, List.getElem_cons_zero]
      have hsz := hH.1.size
      refine wpAnyH_ready (rs := [16]) (by kernel_rfl) (by simp) (AllReadyH.cons rfl (fun K hK => ?_) AllReadyH.nil)
      go_simp
      refine (concat5 _ _ ⟨some ⟨w1.heap.size, 0, none⟩, 4, 4, mark⟩ ⟨AE, 4, cE, num 4 (e.setWidth 64)⟩ ⟨AS, 4, cS, num 4 (s.setWidth 64)⟩ ⟨AF, 1, cF, num 1 (BitVec.ofInt 64 f)⟩ ⟨A1, 2 + n, c1, text body⟩ _ (Cel.new _ _ _) (LM.alloc _) (LE.alloc _) (LS.alloc _) (LF.alloc _) (L1.alloc _) (15 + n) (by show 4 + (4 + (4 + (1 + (2 + n)))) = 15 + n; omega) (by omega)).mono ?_
      rintro r wC ⟨AC, cC, rfl, oC, bC⟩
      have OC := Lib.hid oC
      clear oC
      go_wp2_with fail
      refine hK.out _ _ (held k0 k1 k2 hlt (hH.1.call bC)) (fun hH' => ?_)
      clear hK K hH
      have hH := hH'
      clear hH'
      try simp only [Act.put, List.setIfInBounds_toArray, List.set_cons_zero, List.set_cons_succ, List.getElem_toArray, List.getElem_cons_succ, List.getElem_cons_zero]
      refine wpAnyH_ready (rs := [17]) (by kernel_rfl) (by simp) (AllReadyH.cons rfl (fun K hK => ?_) AllReadyH.nil)
      go_simp
      refine hK.out _ _ hH (fun _ => ?_)
      refine wpAnyH_done (by kernel_rfl) ?_ _
      clear hK K
      have hF := hH.1
      clear hH
      go_wp2_with fail
      go_ret
      exact ⟨AC, cC, rfl, OC.out.base (Nat.le_trans (Nat.le_of_lt hlt) hsz), fields_end HB1.out hF⟩
    · skip
      go_simp
      refine (number_at (e.setWidth 64) 4 (by decide) (by decide) _ _ (wideW e) rfl _).mono ?_
      rintro r wE ⟨AE, cE, rfl, oE, bE⟩
      go_wp2_with fail
      refine hK.out _ _ (held k0 k1 k2 hlt (hH.1.call bE)) (fun hH' => ?_)
      replace L1 := Lo.call bE L1
      replace LM := Lo.call bE LM
      have LE := Lo.own oE
      clear hK K hH
      have hH := hH'
      clear hH'
      try simp only [Act.put, List.setIfInBounds_toArray, List.set_cons_zero, List.set_cons_succ, List.getElem_toArray, List.getElem_cons_succ, List.getElem_cons_zero]
      refine wpAnyH_ready (rs := [1, 9]) (by kernel_rfl) (by simp) (AllReadyH.cons rfl (fun K hK => ?_) (AllReadyH.cons rfl (fun K hK => ?_) AllReadyH.nil))
      · skip
        go_simp
        refine hK.out _ _ (held k0 k1 k2 hlt (From.mkd hz hH.1)) (fun hH' => ?_)
        replace L1 := Lo.mkd (a := ⟨w1.heap.size, 0, none⟩) L1
        replace LM := Lo.mkd (a := ⟨w1.heap.size, 0, none⟩) LM
        replace LE := Lo.mkd (a := ⟨w1.heap.size, 0, none⟩) LE
        clear hK K hH
        have hH := hH'
        clear hH'
        try simp only [Act.put, List.setIfInBounds_toArray, List.set_cons_zero, List.set_cons_succ, List.getElem_toArray, List.getElem_cons_succ, List.getElem_cons_zero]
        refine wpAnyH_ready (rs := [9]) (by kernel_rfl) (by simp) (AllReadyH.cons rfl (fun K hK => ?_) AllReadyH.nil)
        go_simp
        refine (number_at (s.setWidth 64) 4 (by decide) (by decide) _ _ (wideW s) rfl _).mono ?_
        rintro r wS ⟨AS, cS, rfl, oS, bS⟩
        go_wp2_with fail
        refine hK.out _ _ (held k0 k1 k2 hlt (hH.1.call bS)) (fun hH' => ?_)
        replace L1 := Lo.call bS L1
        replace LM := Lo.call bS LM
        replace LE := Lo.call bS LE
        have LS := Lo.own oS
        clear hK K hH
        have hH := hH'
        clear hH'
        try simp only [Act.put, List.setIfInBounds_toArray, List.set_cons_zero, List.set_cons_succ, List.getElem_toArray, List.getElem_cons_succ, List.getElem_cons_zero]
        refine wpAnyH_ready (rs := [13]) (by kernel_rfl) (by simp) (AllReadyH.cons rfl (fun K hK => ?_) AllReadyH.nil)
        go_simp
        refine (number_at (BitVec.ofInt 64 f) 1 (by decide) (by decide) _ _ (flagsW hf0 hf3) rfl _).mono ?_
        rintro r wF ⟨AF, cF, rfl, oF, bF⟩
        go_wp2_with fail
        refine hK.out _ _ (held k0 k1 k2 hlt (hH.1.call bF)) (fun hH' => ?_)
        replace L1 := Lo.call bF L1
        replace LM := Lo.call bF LM
        replace LE := Lo.call bF LE
        replace LS := Lo.call bF LS
        have LF := Lo.own oF
        clear hK K hH
        have hH := hH'
        clear hH'
        try simp only [Act.put, List.setIfInBounds_toArray, List.set_cons_zero, List.set_cons_succ, List.getElem_toArray, List.getElem_cons_succ, List.getElem_cons_zero]
        refine wpAnyH_ready (rs := [15]) (by kernel_rfl) (by simp) (AllReadyH.cons rfl (fun K hK => ?_) AllReadyH.nil)
        go_simp
        refine hK.out _ _ (held k0 k1 k2 hlt (hH.1.alloc _)) (fun hH' => ?_)
        clear hK K hH
        have hH := hH'
        clear hH'
        try simp only [Act.put, List.setIfInBounds_toArray, List.set_cons_zero, List.set_cons_succ, List.getElem_toArray, List.getElem_cons_succ, List.getElem_cons_zero]
        have hsz := hH.1.size
        refine wpAnyH_ready (rs := [16]) (by kernel_rfl) (by simp) (AllReadyH.cons rfl (fun K hK => ?_) AllReadyH.nil)
        go_simp
        refine (concat5 _ _ ⟨some ⟨w1.heap.size, 0, none⟩, 4, 4, mark⟩ ⟨AE, 4, cE, num 4 (e.setWidth 64)⟩ ⟨AS, 4, cS, num 4 (s.setWidth 64)⟩ ⟨AF, 1, cF, num 1 (BitVec.ofInt 64 f)⟩ ⟨A1, 2 + n, c1, text body⟩ _ (Cel.new _ _ _) (LM.alloc _) (LE.alloc _) (LS.alloc _) (LF.alloc _) (L1.alloc _) (15 + n) (by show 4 + (4 + (4 + (1 + (2 + n)))) = 15 + n; omega) (by omega)).mono ?_
        rintro r wC ⟨AC, cC, rfl, oC, bC⟩
        have OC := Lib.hid oC
        clear oC
        go_wp2_with fail
        refine hK.out _ _ (held k0 k1 k2 hlt (hH.1.call bC)) (fun hH' => ?_)
        clear hK K hH
        have hH := hH'
        clear hH'
        try simp only [Act.put, List.setIfInBounds_toArray, List.set_cons_zero, List.set_cons_succ, List.getElem_toArray, List.getElem_cons_succ, List.getElem_cons_zero]
        refine wpAnyH_ready (rs := [17]) (by kernel_rfl) (by simp) (AllReadyH.cons rfl (fun K hK => ?_) AllReadyH.nil)
        go_simp
        refine hK.out _ _ hH (fun _ => ?_)
        refine wpAnyH_done (by kernel_rfl) ?_ _
        clear hK K
        have hF := hH.1
        clear hH
        go_wp2_with fail
        go_ret
        exact ⟨AC, cC, rfl, OC.out.base (Nat.le_trans (Nat.le_of_lt hlt) hsz), fields_end HB1.out hF⟩
      · skip
        go_simp
        refine (number_at (s.setWidth 64) 4 (by decide) (by decide) _ _ (wideW s) rfl _).mono ?_
        rintro r wS ⟨AS, cS, rfl, oS, bS⟩
        go_wp2_with fail
        refine hK.out _ _ (held k0 k1 k2 hlt (hH.1.call bS)) (fun hH' => ?_)
        replace L1 := Lo.call bS L1
        replace LM := Lo.call bS LM
        replace LE := Lo.call bS LE
        have LS := Lo.own oS
        clear hK K hH
        have hH := hH'
        clear hH'
        try simp only [Act.put, List.setIfInBounds_toArray, List.set_cons_zero, List.set_cons_succ, List.getElem_toArray, List.getElem_cons_succ, List.getElem_cons_zero]
        refine wpAnyH_ready (rs := [1, 13]) (by kernel_rfl) (by simp) (AllReadyH.cons rfl (fun K hK => ?_) (AllReadyH.cons rfl (fun K hK => ?_) AllReadyH.nil))
        · skip
          go_simp
          refine hK.out _ _ (held k0 k1 k2 hlt (From.mkd hz hH.1)) (fun hH' => ?_)
          replace L1 := Lo.mkd (a := ⟨w1.heap.size, 0, none⟩) L1
          replace LM := Lo.mkd (a := ⟨w1.heap.size, 0, none⟩) LM
          replace LE := Lo.mkd (a := ⟨w1.heap.size, 0, none⟩) LE
          replace LS := Lo.mkd (a := ⟨w1.heap.size, 0, none⟩) LS
          clear hK K hH
          have hH := hH'
          clear hH'
          try simp only [Act.put, List.setIfInBounds_toArray, List.set_cons_zero, List.set_cons_succ, List.getElem_toArray, List.getElem_cons_succ, List.getElem_cons_zero]
          refine wpAnyH_ready (rs := [13]) (by kernel_rfl) (by simp) (AllReadyH.cons rfl (fun K hK => ?_) AllReadyH.nil)
          go_simp
          refine (number_at (BitVec.ofInt 64 f) 1 (by decide) (by decide) _ _ (flagsW hf0 hf3) rfl _).mono ?_
          rintro r wF ⟨AF, cF, rfl, oF, bF⟩
          go_wp2_with fail
          refine hK.out _ _ (held k0 k1 k2 hlt (hH.1.call bF)) (fun hH' => ?_)
          replace L1 := Lo.call bF L1
          replace LM := Lo.call bF LM
          replace LE := Lo.call bF LE
          replace LS := Lo.call bF LS
          have LF := Lo.own oF
          clear hK K hH
          have hH := hH'
          clear hH'
          try simp only [Act.put, List.setIfInBounds_toArray, List.set_cons_zero, List.set_cons_succ, List.getElem_toArray, List.getElem_cons_succ, List.getElem_cons_zero]
          refine wpAnyH_ready (rs := [15]) (by kernel_rfl) (by simp) (AllReadyH.cons rfl (fun K hK => ?_) AllReadyH.nil)
          go_simp
          refine hK.out _ _ (held k0 k1 k2 hlt (hH.1.alloc _)) (fun hH' => ?_)
          clear hK K hH
          have hH := hH'
          clear hH'
          try simp only [Act.put, List.setIfInBounds_toArray, List.set_cons_zero, List.set_cons_succ, List.getElem_toArray, List.getElem_cons_succ, List.getElem_cons_zero]
          have hsz := hH.1.size
          refine wpAnyH_ready (rs := [16]) (by kernel_rfl) (by simp) (AllReadyH.cons rfl (fun K hK => ?_) AllReadyH.nil)
          go_simp
          refine (concat5 _ _ ⟨some ⟨w1.heap.size, 0, none⟩, 4, 4, mark⟩ ⟨AE, 4, cE, num 4 (e.setWidth 64)⟩ ⟨AS, 4, cS, num 4 (s.setWidth 64)⟩ ⟨AF, 1, cF, num 1 (BitVec.ofInt 64 f)⟩ ⟨A1, 2 + n, c1, text body⟩ _ (Cel.new _ _ _) (LM.alloc _) (LE.alloc _) (LS.alloc _) (LF.alloc _) (L1.alloc _) (15 + n) (by show 4 + (4 + (4 + (1 + (2 + n)))) = 15 + n; omega) (by omega)).mono ?_
          rintro r wC ⟨AC, cC, rfl, oC, bC⟩
          have OC := Lib.hid oC
          clear oC
          go_wp2_with fail
          refine hK.out _ _ (held k0 k1 k2 hlt (hH.1.call bC)) (fun hH' => ?_)
          clear hK K hH
          have hH := hH'
          clear hH'
          try simp only [Act.put, List.setIfInBounds_toArray, List.set_cons_zero, List.set_cons_succ, List.getElem_toArray, List.getElem_cons_succ, List.getElem_cons_zero]
          refine wpAnyH_ready (rs := [17]) (by kernel_rfl) (by simp) (AllReadyH.cons rfl (fun K hK => ?_) AllReadyH.nil)
          go_simp
          refine hK.out _ _ hH (fun _ => ?_)
          refine wpAnyH_done (by kernel_rfl) ?_ _
          clear hK K
          have hF := hH.1
          clear hH
          go_wp2_with fail
          go_ret
          exact ⟨AC, cC, rfl, OC.out.base (Nat.le_trans (Nat.le_of_lt hlt) hsz), fields_end HB1.out hF⟩
        · skip
          go_simp
          refine (number_at (BitVec.ofInt 64 f) 1 (by decide) (by decide) _ _ (flagsW hf0 hf3) rfl _).mono ?_
          rintro r wF ⟨AF, cF, rfl, oF, bF⟩
          go_wp2_with fail
          refine hK.out _ _ (held k0 k1 k2 hlt (hH.1.call bF)) (fun hH' => ?_)
          replace L1 := Lo.call bF L1
          replace LM := Lo.call bF LM
          replace LE := Lo.call bF LE
          replace LS := Lo.call bF LS
          have LF := Lo.own oF
          clear hK K hH
          have hH := hH'
          clear hH'
          try simp only [Act.put, List.setIfInBounds_toArray, List.set_cons_zero, List.set_cons_succ, List.getElem_toArray, List.getElem_cons_succ, List.getElem_cons_zero]
          refine wpAnyH_ready (rs := [1]) (by kernel_rfl) (by simp) (AllReadyH.cons rfl (fun K hK => ?_) AllReadyH.nil)
          go_simp
          refine hK.out _ _ (held k0 k1 k2 hlt (From.mkd hz hH.1)) (fun hH' => ?_)
          replace L1 := Lo.mkd (a := ⟨w1.heap.size, 0, none⟩) L1
          replace LM := Lo.mkd (a := ⟨w1.heap.size, 0, none⟩) LM
          replace LE := Lo.mkd (a := ⟨w1.heap.size, 0, none⟩) LE
          replace LS := Lo.mkd (a := ⟨w1.heap.size, 0, none⟩) LS
          replace LF := Lo.mkd (a := ⟨w1.heap.size, 0, none⟩) LF
          clear hK K hH
          have hH := hH'
          clear hH'
          try simp only [Act.put, List.setIfInBounds_toArray, List.set_cons_zero, List.set_cons_succ, List.getElem_toArray, List.getElem_cons_succ, List.getElem_cons_zero]
          refine wpAnyH_ready (rs := [15]) (by kernel_rfl) (by simp) (AllReadyH.cons rfl (fun K hK => ?_) AllReadyH.nil)
          go_simp
          refine hK.out _ _ (held k0 k1 k2 hlt (hH.1.alloc _)) (fun hH' => ?_)
          clear hK K hH
          have hH := hH'
          clear hH'
          try simp only [Act.put, List.setIfInBounds_toArray, List.set_cons_zero, List.set_cons_succ, List.getElem_toArray, List.getElem_cons_succ, List.getElem_cons_zero]
          have hsz := hH.1.size
          refine wpAnyH_ready (rs := [16]) (by kernel_rfl) (by simp) (AllReadyH.cons rfl (fun K hK => ?_) AllReadyH.nil)
          go_simp
          refine (concat5 _ _ ⟨some ⟨w1.heap.size, 0, none⟩, 4, 4, mark⟩ ⟨AE, 4, cE, num 4 (e.setWidth 64)⟩ ⟨AS, 4, cS, num 4 (s.setWidth 64)⟩ ⟨AF, 1, cF, num 1 (BitVec.ofInt 64 f)⟩ ⟨A1, 2 + n, c1, text body⟩ _ (Cel.new _ _ _) (LM.alloc _) (LE.alloc _) (LS.alloc _) (LF.alloc _) (L1.alloc _) (15 + n) (by show 4 + (4 + (4 + (1 + (2 + n)))) = 15 + n; omega) (by omega)).mono ?_
          rintro r wC ⟨AC, cC, rfl, oC, bC⟩
          have OC := Lib.hid oC
          clear oC
          go_wp2_with fail
          refine hK.out _ _ (held k0 k1 k2 hlt (hH.1.call bC)) (fun hH' => ?_)
          clear hK K hH
          have hH := hH'
          clear hH'
          try simp only [Act.put, List.setIfInBounds_toArray, List.set_cons_zero, List.set_cons_succ, List.getElem_toArray, List.getElem_cons_succ, List.getElem_cons_zero]
          refine wpAnyH_ready (rs := [17]) (by kernel_rfl) (by simp) (AllReadyH.cons rfl (fun K hK => ?_) AllReadyH.nil)
          go_simp
          refine hK.out _ _ hH (fun _ => ?_)
          refine wpAnyH_done (by kernel_rfl) ?_ _
          clear hK K
          have hF := hH.1
          clear hH
          go_wp2_with fail
          go_ret
          exact ⟨AC, cC, rfl, OC.out.base (Nat.le_trans (Nat.le_of_lt hlt) hsz), fields_end HB1.out hF⟩
  · skip
    go_simp
    refine (number_at (e.setWidth 64) 4 (by decide) (by decide) _ _ (wideW e) rfl _).mono ?_
    rintro r wE ⟨AE, cE, rfl, oE, bE⟩
    go_wp2_with fail
    refine hK.out _ _ (held k0 k1 k2 hlt (hH.1.call bE)) (fun hH' => ?_)
    replace L1 := Lo.call bE L1
    have LE := Lo.own oE
    clear hK K hH
    have hH := hH'
    clear hH'
    try simp only [Act.put, List.setIfInBounds_toArray, List.set_cons_zero, List.set_cons_succ, List.getElem_toArray, List.getElem_cons_succ, List.getElem_cons_zero]
    refine wpAnyH_ready (rs := [0, 9]) (by kernel_rfl) (by simp) (AllReadyH.cons rfl (fun K hK => ?_) (AllReadyH.cons rfl (fun K hK => ?_) AllReadyH.nil))
    · skip
      go_simp
      have hz := hH.1.size
      refine hK.out _ _ (held k0 k1 k2 hlt (hH.1.alloc _)) (fun hH' => ?_)
      have LM := (Lo.lit wE 5 #[v8 68#8, v8 86#8, v8 84#8, v8 49#8] mark rfl 4 rfl)
      replace L1 := (Lo.alloc (.cells #[v8 68#8, v8 86#8, v8 84#8, v8 49#8] 5) L1)
      replace LE := (Lo.alloc (.cells #[v8 68#8, v8 86#8, v8 84#8, v8 49#8] 5) LE)
      clear hK K hH
      have hH := hH'
      clear hH'
      try simp only [Act.put, List.setIfInBounds_toArray, List.set_cons_zero, List.set_cons_succ, List.getElem_toArray, List.getElem_cons_succ, List.getElem_cons_zero]
      refine wpAnyH_ready (rs := [1, 9]) (by kernel_rfl) (by simp) (AllReadyH.cons rfl (fun K hK => ?_) (AllReadyH.cons rfl (fun K hK => ?_) AllReadyH.nil))
      · skip
        go_simp
        refine hK.out _ _ (held k0 k1 k2 hlt (From.mkd hz hH.1)) (fun hH' => ?_)
        replace L1 := Lo.mkd (a := ⟨wE.heap.size, 0, none⟩) L1
        replace LM := Lo.mkd (a := ⟨wE.heap.size, 0, none⟩) LM
        replace LE := Lo.mkd (a := ⟨wE.heap.size, 0, none⟩) LE
        clear hK K hH
        have hH := hH'
        clear hH'
        try simp only [Act.put, List.setIfInBounds_toArray, List.set_cons_zero, List.set_cons_succ, List.getElem_toArray, List.getElem_cons_succ, List.getElem_cons_zero]
        refine wpAnyH_ready (rs := [9]) (by kernel_rfl) (by simp) (AllReadyH.cons rfl (fun K hK => ?_) AllReadyH.nil)
        go_simp
        refine (number_at (s.setWidth 64) 4 (by decide) (by decide) _ _ (wideW s) rfl _).mono ?_
        rintro r wS ⟨AS, cS, rfl, oS, bS⟩
        go_wp2_with fail
        refine hK.out _ _ (held k0 k1 k2 hlt (hH.1.call bS)) (fun hH' => ?_)
        replace L1 := Lo.call bS L1
        replace LM := Lo.call bS LM
        replace LE := Lo.call bS LE
        have LS := Lo.own oS
        clear hK K hH
        have hH := hH'
        clear hH'
        try simp only [Act.put, List.setIfInBounds_toArray, List.set_cons_zero, List.set_cons_succ, List.getElem_toArray, List.getElem_cons_succ, List.getElem_cons_zero]
        refine wpAnyH_ready (rs := [13]) (by kernel_rfl) (by simp) (AllReadyH.cons rfl (fun K hK => ?_) AllReadyH.nil)
        go_simp
        refine (number_at (BitVec.ofInt 64 f) 1 (by decide) (by decide) _ _ (flagsW hf0 hf3) rfl _).mono ?_
        rintro r wF ⟨AF, cF, rfl, oF, bF⟩
        go_wp2_with fail
        refine hK.out _ _ (held k0 k1 k2 hlt (hH.1.call bF)) (fun hH' => ?_)
        replace L1 := Lo.call bF L1
        replace LM := Lo.call bF LM
        replace LE := Lo.call bF LE
        replace LS := Lo.call bF LS
        have LF := Lo.own oF
        clear hK K hH
        have hH := hH'
        clear hH'
        try simp only [Act.put, List.setIfInBounds_toArray, List.set_cons_zero, List.set_cons_succ, List.getElem_toArray, List.getElem_cons_succ, List.getElem_cons_zero]
        refine wpAnyH_ready (rs := [15]) (by kernel_rfl) (by simp) (AllReadyH.cons rfl (fun K hK => ?_) AllReadyH.nil)
        go_simp
        refine hK.out _ _ (held k0 k1 k2 hlt (hH.1.alloc _)) (fun hH' => ?_)
        clear hK K hH
        have hH := hH'
        clear hH'
        try simp only [Act.put, List.setIfInBounds_toArray, List.set_cons_zero, List.set_cons_succ, List.getElem_toArray, List.getElem_cons_succ, List.getElem_cons_zero]
        have hsz := hH.1.size
        refine wpAnyH_ready (rs := [16]) (by kernel_rfl) (by simp) (AllReadyH.cons rfl (fun K hK => ?_) AllReadyH.nil)
        go_simp
        refine (concat5 _ _ ⟨some ⟨wE.heap.size, 0, none⟩, 4, 4, mark⟩ ⟨AE, 4, cE, num 4 (e.setWidth 64)⟩ ⟨AS, 4, cS, num 4 (s.setWidth 64)⟩ ⟨AF, 1, cF, num 1 (BitVec.ofInt 64 f)⟩ ⟨A1, 2 + n, c1, text body⟩ _ (Cel.new _ _ _) (LM.alloc _) (LE.alloc _) (LS.alloc _) (LF.alloc _) (L1.alloc _) (15 + n) (by show 4 + (4 + (4 + (1 + (2 + n)))) = 15 + n; omega) (by omega)).mono ?_
        rintro r wC ⟨AC, cC, rfl, oC, bC⟩
        have OC := Lib.hid oC
        clear oC
        go_wp2_with fail
        refine hK.out _ _ (held k0 k1 k2 hlt (hH.1.call bC)) (fun hH' => ?_)
        clear hK K hH
        have hH := hH'
        clear hH'
        try simp only [Act.put, List.setIfInBounds_toArray, List.set_cons_zero, List.set_cons_succ, List.getElem_toArray, List.getElem_cons_succ, List.getElem_cons_zero]
        refine wpAnyH_ready (rs := [17]) (by kernel_rfl) (by simp) (AllReadyH.cons rfl (fun K hK => ?_) AllReadyH.nil)
        go_simp
        refine hK.out _ _ hH (fun _ => ?_)
        refine wpAnyH_done (by kernel_rfl) ?_ _
        clear hK K
        have hF := hH.1
        clear hH
        go_wp2_with fail
        go_ret
        exact ⟨AC, cC, rfl, OC.out.base (Nat.le_trans (Nat.le_of_lt hlt) hsz), fields_end HB1.out hF⟩
      · skip
        go_simp
        refine (number_at (s.setWidth 64) 4 (by decide) (by decide) _ _ (wideW s) rfl _).mono ?_
        rintro r wS ⟨AS, cS, rfl, oS, bS⟩
        go_wp2_with fail
        refine hK.out _ _ (held k0 k1 k2 hlt (hH.1.call bS)) (fun hH' => ?_)
        replace L1 := Lo.call bS L1
        replace LM := Lo.call bS LM
        replace LE := Lo.call bS LE
        have LS := Lo.own oS
        clear hK K hH
        have hH := hH'
        clear hH'
        try simp only [Act.put, List.setIfInBounds_toArray, List.set_cons_zero, List.set_cons_succ, List.getElem_toArray, List.getElem_cons_succ, List.getElem_cons_zero]
        refine wpAnyH_ready (rs := [1, 13]) (by kernel_rfl) (by simp) (AllReadyH.cons rfl (fun K hK => ?_) (AllReadyH.cons rfl (fun K hK => ?_) AllReadyH.nil))
        · skip
          go_simp
          refine hK.out _ _ (held k0 k1 k2 hlt (From.mkd hz hH.1)) (fun hH' => ?_)
          replace L1 := Lo.mkd (a := ⟨wE.heap.size, 0, none⟩) L1
          replace LM := Lo.mkd (a := ⟨wE.heap.size, 0, none⟩) LM
          replace LE := Lo.mkd (a := ⟨wE.heap.size, 0, none⟩) LE
          replace LS := Lo.mkd (a := ⟨wE.heap.size, 0, none⟩) LS
          clear hK K hH
          have hH := hH'
          clear hH'
          try simp only [Act.put, List.setIfInBounds_toArray, List.set_cons_zero, List.set_cons_succ, List.getElem_toArray, List.getElem_cons_succ, List.getElem_cons_zero]
          refine wpAnyH_ready (rs := [13]) (by kernel_rfl) (by simp) (AllReadyH.cons rfl (fun K hK => ?_) AllReadyH.nil)
          go_simp
          refine (number_at (BitVec.ofInt 64 f) 1 (by decide) (by decide) _ _ (flagsW hf0 hf3) rfl _).mono ?_
          rintro r wF ⟨AF, cF, rfl, oF, bF⟩
          go_wp2_with fail
          refine hK.out _ _ (held k0 k1 k2 hlt (hH.1.call bF)) (fun hH' => ?_)
          replace L1 := Lo.call bF L1
          replace LM := Lo.call bF LM
          replace LE := Lo.call bF LE
          replace LS := Lo.call bF LS
          have LF := Lo.own oF
          clear hK K hH
          have hH := hH'
          clear hH'
          try simp only [Act.put, List.setIfInBounds_toArray, List.set_cons_zero, List.set_cons_succ, List.getElem_toArray, List.getElem_cons_succ, List.getElem_cons_zero]
          refine wpAnyH_ready (rs := [15]) (by kernel_rfl) (by simp) (AllReadyH.cons rfl (fun K hK => ?_) AllReadyH.nil)
          go_simp
          refine hK.out _ _ (held k0 k1 k2 hlt (hH.1.alloc _)) (fun hH' => ?_)
          clear hK K hH
          have hH := hH'
          clear hH'
          try simp only [Act.put, List.setIfInBounds_toArray, List.set_cons_zero, List.set_cons_succ, List.getElem_toArray, List.getElem_cons_succ, List.getElem_cons_zero]
          have hsz := hH.1.size
          refine wpAnyH_ready (rs := [16]) (by kernel_rfl) (by simp) (AllReadyH.cons rfl (fun K hK => ?_) AllReadyH.nil)
          go_simp
          refine (concat5 _ _ ⟨some ⟨wE.heap.size, 0, none⟩, 4, 4, mark⟩ ⟨AE, 4, cE, num 4 (e.setWidth 64)⟩ ⟨AS, 4, cS, num 4 (s.setWidth 64)⟩ ⟨AF, 1, cF, num 1 (BitVec.ofInt 64 f)⟩ ⟨A1, 2 + n, c1, text body⟩ _ (Cel.new _ _ _) (LM.alloc _) (LE.alloc _) (LS.alloc _) (LF.alloc _) (L1.alloc _) (15 + n) (by show 4 + (4 + (4 + (1 + (2 + n)))) = 15 + n; omega) (by omega)).mono ?_
          rintro r wC ⟨AC, cC, rfl, oC, bC⟩
          have OC := Lib.hid oC
          clear oC
          go_wp2_with fail
          refine hK.out _ _ (held k0 k1 k2 hlt (hH.1.call bC)) (fun hH' => ?_)
          clear hK K hH
          have hH := hH'
          clear hH'
          try simp only [Act.put, List.setIfInBounds_toArray, List.set_cons_zero, List.set_cons_succ, List.getElem_toArray, List.getElem_cons_succ, List.getElem_cons_zero]
          refine wpAnyH_ready (rs := [17]) (by kernel_rfl) (by simp) (AllReadyH.cons rfl (fun K hK => ?_) AllReadyH.nil)
          go_simp
          refine hK.out _ _ hH (fun _ => ?_)
          refine wpAnyH_done (by kernel_rfl) ?_ _
          clear hK K
          have hF := hH.1
          clear hH
          go_wp2_with fail
          go_ret
          exact ⟨AC, cC, rfl, OC.out.base (Nat.le_trans (Nat.le_of_lt hlt) hsz), fields_end HB1.out hF⟩
        · skip
          go_simp
          refine (number_at (BitVec.ofInt 64 f) 1 (by decide) (by decide) _ _ (flagsW hf0 hf3) rfl _).mono ?_
          rintro r wF ⟨AF, cF, rfl, oF, bF⟩
          go_wp2_with fail
          refine hK.out _ _ (held k0 k1 k2 hlt (hH.1.call bF)) (fun hH' => ?_)
          replace L1 := Lo.call bF L1
          replace LM := Lo.call bF LM
          replace LE := Lo.call bF LE
          replace LS := Lo.call bF LS
          have LF := Lo.own oF
          clear hK K hH
          have hH := hH'
          clear hH'
          try simp only [Act.put, List.setIfInBounds_toArray, List.set_cons_zero, List.set_cons_succ, List.getElem_toArray, List.getElem_cons_succ, List.getElem_cons_zero]
          refine wpAnyH_ready (rs := [1]) (by kernel_rfl) (by simp) (AllReadyH.cons rfl (fun K hK => ?_) AllReadyH.nil)
          go_simp
          refine hK.out _ _ (held k0 k1 k2 hlt (From.mkd hz hH.1)) (fun hH' => ?_)
          replace L1 := Lo.mkd (a := ⟨wE.heap.size, 0, none⟩) L1
          replace LM := Lo.mkd (a := ⟨wE.heap.size, 0, none⟩) LM
          replace LE := Lo.mkd (a := ⟨wE.heap.size, 0, none⟩) LE
          replace LS := Lo.mkd (a := ⟨wE.heap.size, 0, none⟩) LS
          replace LF := Lo.mkd (a := ⟨wE.heap.size, 0, none⟩) LF
          clear hK K hH
          have hH := hH'
          clear hH'
          try simp only [Act.put, List.setIfInBounds_toArray, List.set_cons_zero, List.set_cons_succ, List.getElem_toArray, List.getElem_cons_succ, List.getElem_cons_zero]
          refine wpAnyH_ready (rs := [15]) (by kernel_rfl) (by simp) (AllReadyH.cons rfl (fun K hK => ?_) AllReadyH.nil)
          go_simp
          refine hK.out _ _ (held k0 k1 k2 hlt (hH.1.alloc _)) (fun hH' => ?_)
          clear hK K hH
          have hH := hH'
          clear hH'
          try simp only [Act.put, List.setIfInBounds_toArray, List.set_cons_zero, List.set_cons_succ, List.getElem_toArray, List.getElem_cons_succ, List.getElem_cons_zero]
          have hsz := hH.1.size
          refine wpAnyH_ready (rs := [16]) (by kernel_rfl) (by simp) (AllReadyH.cons rfl (fun K hK => ?_) AllReadyH.nil)
          go_simp
          refine (concat5 _ _ ⟨some ⟨wE.heap.size, 0, none⟩, 4, 4, mark⟩ ⟨AE, 4, cE, num 4 (e.setWidth 64)⟩ ⟨AS, 4, cS, num 4 (s.setWidth 64)⟩ ⟨AF, 1, cF, num 1 (BitVec.ofInt 64 f)⟩ ⟨A1, 2 + n, c1, text body⟩ _ (Cel.new _ _ _) (LM.alloc _) (LE.alloc _) (LS.alloc _) (LF.alloc _) (L1.alloc _) (15 + n) (by show 4 + (4 + (4 + (1 + (2 + n)))) = 15 + n; omega) (by omega)).mono ?_
          rintro r wC ⟨AC, cC, rfl, oC, bC⟩
          have OC := Lib.hid oC
          clear oC
          go_wp2_with fail
          refine hK.out _ _ (held k0 k1 k2 hlt (hH.1.call bC)) (fun hH' => ?_)
          clear hK K hH
          have hH := hH'
          clear hH'
          try simp only [Act.put, List.setIfInBounds_toArray, List.set_cons_zero, List.set_cons_succ, List.getElem_toArray, List.getElem_cons_succ, List.getElem_cons_zero]
          refine wpAnyH_ready (rs := [17]) (by kernel_rfl) (by simp) (AllReadyH.cons rfl (fun K hK => ?_) AllReadyH.nil)
          go_simp
          refine hK.out _ _ hH (fun _ => ?_)
          refine wpAnyH_done (by kernel_rfl) ?_ _
          clear hK K
          have hF := hH.1
          clear hH
          go_wp2_with fail
          go_ret
          exact ⟨AC, cC, rfl, OC.out.base (Nat.le_trans (Nat.le_of_lt hlt) hsz), fields_end HB1.out hF⟩
    · skip
      go_simp
      refine (number_at (s.setWidth 64) 4 (by decide) (by decide) _ _ (wideW s) rfl _).mono ?_
      rintro r wS ⟨AS, cS, rfl, oS, bS⟩
      go_wp2_with fail
      refine hK.out _ _ (held k0 k1 k2 hlt (hH.1.call bS)) (fun hH' => ?_)
      replace L1 := Lo.call bS L1
      replace LE := Lo.call bS LE
      have LS := Lo.own oS
      clear hK K hH
      have hH := hH'
      clear hH'
      try simp only [Act.put, List.setIfInBounds_toArray, List.set_cons_zero, List.set_cons_succ, List.getElem_toArray, List.getElem_cons_succ, List.getElem_cons_zero]
      refine wpAnyH_ready (rs := [0, 13]) (by kernel_rfl) (by simp) (AllReadyH.cons rfl (fun K hK => ?_) (AllReadyH.cons rfl (fun K hK => ?_) AllReadyH.nil))
      · skip
        go_simp
        have hz := hH.1.size
        refine hK.out _ _ (held k0 k1 k2 hlt (hH.1.alloc _)) (fun hH' => ?_)
        have LM := (Lo.lit wS 5 #[v8 68#8, v8 86#8, v8 84#8, v8 49#8] mark rfl 4 rfl)
        replace L1 := (Lo.alloc (.cells #[v8 68#8, v8 86#8, v8 84#8, v8 49#8] 5) L1)
        replace LE := (Lo.alloc (.cells #[v8 68#8, v8 86#8, v8 84#8, v8 49#8] 5) LE)
        replace LS := (Lo.alloc (.cells #[v8 68#8, v8 86#8, v8 84#8, v8 49#8] 5) LS)
        clear hK K hH
        have hH := hH'
        clear hH'
        try simp only [Act.put, List.setIfInBounds_toArray, List.set_cons_zero, List.set_cons_succ, List.getElem_toArray, List.getElem_cons_succ, List.getElem_cons_zero]
        refine wpAnyH_ready (rs := [1, 13]) (by kernel_rfl) (by simp) (AllReadyH.cons rfl (fun K hK => ?_) (AllReadyH.cons rfl (fun K hK => ?_) AllReadyH.nil))
        · skip
          go_simp
          refine hK.out _ _ (held k0 k1 k2 hlt (From.mkd hz hH.1)) (fun hH' => ?_)
          replace L1 := Lo.mkd (a := ⟨wS.heap.size, 0, none⟩) L1
          replace LM := Lo.mkd (a := ⟨wS.heap.size, 0, none⟩) LM
          replace LE := Lo.mkd (a := ⟨wS.heap.size, 0, none⟩) LE
          replace LS := Lo.mkd (a := ⟨wS.heap.size, 0, none⟩) LS
          clear hK K hH
          have hH := hH'
          clear hH'
          try simp only [Act.put, List.setIfInBounds_toArray, List.set_cons_zero, List.set_cons_succ, List.getElem_toArray, List.getElem_cons_succ, List.getElem_cons_zero]
          refine wpAnyH_ready (rs := [13]) (by kernel_rfl) (by simp) (AllReadyH.cons rfl (fun K hK => ?_) AllReadyH.nil)
          go_simp
          refine (number_at (BitVec.ofInt 64 f) 1 (by decide) (by decide) _ _ (flagsW hf0 hf3) rfl _).mono ?_
          rintro r wF ⟨AF, cF, rfl, oF, bF⟩
          go_wp2_with fail
          refine hK.out _ _ (held k0 k1 k2 hlt (hH.1.call bF)) (fun hH' => ?_)
          replace L1 := Lo.call bF L1
          replace LM := Lo.call bF LM
          replace LE := Lo.call bF LE
          replace LS := Lo.call bF LS
          have LF := Lo.own oF
          clear hK K hH
          have hH := hH'
          clear hH'
          try simp only [Act.put, List.setIfInBounds_toArray, List.set_cons_zero, List.set_cons_succ, List.getElem_toArray, List.getElem_cons_succ, List.getElem_cons_zero]
          refine wpAnyH_ready (rs := [15]) (by kernel_rfl) (by simp) (AllReadyH.cons rfl (fun K hK => ?_) AllReadyH.nil)
          go_simp
          refine hK.out _ _ (held k0 k1 k2 hlt (hH.1.alloc _)) (fun hH' => ?_)
          clear hK K hH
          have hH := hH'
          clear hH'
          try simp only [Act.put, List.setIfInBounds_toArray, List.set_cons_zero, List.set_cons_succ, List.getElem_toArray, List.getElem_cons_succ, List.getElem_cons_zero]
          have hsz := hH.1.size
          refine wpAnyH_ready (rs := [16]) (by kernel_rfl) (by simp) (AllReadyH.cons rfl (fun K hK => ?_) AllReadyH.nil)
          go_simp
          refine (concat5 _ _ ⟨some ⟨wS.heap.size, 0, none⟩, 4, 4, mark⟩ ⟨AE, 4, cE, num 4 (e.setWidth 64)⟩ ⟨AS, 4, cS, num 4 (s.setWidth 64)⟩ ⟨AF, 1, cF, num 1 (BitVec.ofInt 64 f)⟩ ⟨A1, 2 + n, c1, text body⟩ _ (Cel.new _ _ _) (LM.alloc _) (LE.alloc _) (LS.alloc _) (LF.alloc _) (L1.alloc _) (15 + n) (by show 4 + (4 + (4 + (1 + (2 + n)))) = 15 + n; omega) (by omega)).mono ?_
          rintro r wC ⟨AC, cC, rfl, oC, bC⟩
          have OC := Lib.hid oC
          clear oC
          go_wp2_with fail
          refine hK.out _ _ (held k0 k1 k2 hlt (hH.1.call bC)) (fun hH' => ?_)
          clear hK K hH
          have hH := hH'
          clear hH'
          try simp only [Act.put, List.setIfInBounds_toArray, List.set_cons_zero, List.set_cons_succ, List.getElem_toArray, List.getElem_cons_succ, List.getElem_cons_zero]
          refine wpAnyH_ready (rs := [17]) (by kernel_rfl) (by simp) (AllReadyH.cons rfl (fun K hK => ?_) AllReadyH.nil)
          go_simp
          refine hK.out _ _ hH (fun _ => ?_)
          refine wpAnyH_done (by kernel_rfl) ?_ _
          clear hK K
          have hF := hH.1
          clear hH
          go_wp2_with fail
          go_ret
          exact ⟨AC, cC, rfl, OC.out.base (Nat.le_trans (Nat.le_of_lt hlt) hsz), fields_end HB1.out hF⟩
        · skip
          go_simp
          refine (number_at (BitVec.ofInt 64 f) 1 (by decide) (by decide) _ _ (flagsW hf0 hf3) rfl _).mono ?_
          rintro r wF ⟨AF, cF, rfl, oF, bF⟩
          go_wp2_with fail
          refine hK.out _ _ (held k0 k1 k2 hlt (hH.1.call bF)) (fun hH' => ?_)
          replace L1 := Lo.call bF L1
          replace LM := Lo.call bF LM
          replace LE := Lo.call bF LE
          replace LS := Lo.call bF LS
          have LF := Lo.own oF
          clear hK K hH
          have hH := hH'
          clear hH'
          try simp only [Act.put, List.setIfInBounds_toArray, List.set_cons_zero, List.set_cons_succ, List.getElem_toArray, List.getElem_cons_succ, List.getElem_cons_zero]
          refine wpAnyH_ready (rs := [1]) (by kernel_rfl) (by simp) (AllReadyH.cons rfl (fun K hK => ?_) AllReadyH.nil)
          go_simp
          refine hK.out _ _ (held k0 k1 k2 hlt (From.mkd hz hH.1)) (fun hH' => ?_)
          replace L1 := Lo.mkd (a := ⟨wS.heap.size, 0, none⟩) L1
          replace LM := Lo.mkd (a := ⟨wS.heap.size, 0, none⟩) LM
          replace LE := Lo.mkd (a := ⟨wS.heap.size, 0, none⟩) LE
          replace LS := Lo.mkd (a := ⟨wS.heap.size, 0, none⟩) LS
          replace LF := Lo.mkd (a := ⟨wS.heap.size, 0, none⟩) LF
          clear hK K hH
          have hH := hH'
          clear hH'
          try simp only [Act.put, List.setIfInBounds_toArray, List.set_cons_zero, List.set_cons_succ, List.getElem_toArray, List.getElem_cons_succ, List.getElem_cons_zero]
          refine wpAnyH_ready (rs := [15]) (by kernel_rfl) (by simp) (AllReadyH.cons rfl (fun K hK => ?_) AllReadyH.nil)
          go_simp
          refine hK.out _ _ (held k0 k1 k2 hlt (hH.1.alloc _)) (fun hH' => ?_)
          clear hK K hH
          have hH := hH'
          clear hH'
          try simp only [Act.put, List.setIfInBounds_toArray, List.set_cons_zero, List.set_cons_succ, List.getElem_toArray, List.getElem_cons_succ, List.getElem_cons_zero]
          have hsz := hH.1.size
          refine wpAnyH_ready (rs := [16]) (by kernel_rfl) (by simp) (AllReadyH.cons rfl (fun K hK => ?_) AllReadyH.nil)
          go_simp
          refine (concat5 _ _ ⟨some ⟨wS.heap.size, 0, none⟩, 4, 4, mark⟩ ⟨AE, 4, cE, num 4 (e.setWidth 64)⟩ ⟨AS, 4, cS, num 4 (s.setWidth 64)⟩ ⟨AF, 1, cF, num 1 (BitVec.ofInt 64 f)⟩ ⟨A1, 2 + n, c1, text body⟩ _ (Cel.new _ _ _) (LM.alloc _) (LE.alloc _) (LS.alloc _) (LF.alloc _) (L1.alloc _) (15 + n) (by show 4 + (4 + (4 + (1 + (2 + n)))) = 15 + n; omega) (by omega)).mono ?_
          rintro r wC ⟨AC, cC, rfl, oC, bC⟩
          have OC := Lib.hid oC
          clear oC
          go_wp2_with fail
          refine hK.out _ _ (held k0 k1 k2 hlt (hH.1.call bC)) (fun hH' => ?_)
          clear hK K hH
          have hH := hH'
          clear hH'
          try simp only [Act.put, List.setIfInBounds_toArray, List.set_cons_zero, List.set_cons_succ, List.getElem_toArray, List.getElem_cons_succ, List.getElem_cons_zero]
          refine wpAnyH_ready (rs := [17]) (by kernel_rfl) (by simp) (AllReadyH.cons rfl (fun K hK => ?_) AllReadyH.nil)
          go_simp
          refine hK.out _ _ hH (fun _ => ?_)
          refine wpAnyH_done (by kernel_rfl) ?_ _
          clear hK K
          have hF := hH.1
          clear hH
          go_wp2_with fail
          go_ret
          exact ⟨AC, cC, rfl, OC.out.base (Nat.le_trans (Nat.le_of_lt hlt) hsz), fields_end HB1.out hF⟩
      · skip
        go_simp
        refine (number_at (BitVec.ofInt 64 f) 1 (by decide) (by decide) _ _ (flagsW hf0 hf3) rfl _).mono ?_
        rintro r wF ⟨AF, cF, rfl, oF, bF⟩
        go_wp2_with fail
        refine hK.out _ _ (held k0 k1 k2 hlt (hH.1.call bF)) (fun hH' => ?_)
        replace L1 := Lo.call bF L1
        replace LE := Lo.call bF LE
        replace LS := Lo.call bF LS
        have LF := Lo.own oF
        clear hK K hH
        have hH := hH'
        clear hH'
        try simp only [Act.put, List.setIfInBounds_toArray, List.set_cons_zero, List.set_cons_succ, List.getElem_toArray, List.getElem_cons_succ, List.getElem_cons_zero]
        refine wpAnyH_ready (rs := [0]) (by kernel_rfl) (by simp) (AllReadyH.cons rfl (fun K hK => ?_) AllReadyH.nil)
        go_simp
        have hz := hH.1.size
        refine hK.out _ _ (held k0 k1 k2 hlt (hH.1.alloc _)) (fun hH' => ?_)
        have LM := (Lo.lit wF 5 #[v8 68#8, v8 86#8, v8 84#8, v8 49#8] mark rfl 4 rfl)
        replace L1 := (Lo.alloc (.cells #[v8 68#8, v8 86#8, v8 84#8, v8 49#8] 5) L1)
        replace LE := (Lo.alloc (.cells #[v8 68#8, v8 86#8, v8 84#8, v8 49#8] 5) LE)
        replace LS := (Lo.alloc (.cells #[v8 68#8, v8 86#8, v8 84#8, v8 49#8] 5) LS)
        replace LF := (Lo.alloc (.cells #[v8 68#8, v8 86#8, v8 84#8, v8 49#8] 5) LF)
        clear hK K hH
        have hH := hH'
        clear hH'
        try simp only [Act.put, List.setIfInBounds_toArray, List.set_cons_zero, List.set_cons_succ, List.getElem_toArray, List.getElem_cons_succ, List.getElem_cons_zero]
        refine wpAnyH_ready (rs := [1]) (by kernel_rfl) (by simp) (AllReadyH.cons rfl (fun K hK => ?_) AllReadyH.nil)
        go_simp
        refine hK.out _ _ (held k0 k1 k2 hlt (From.mkd hz hH.1)) (fun hH' => ?_)
        replace L1 := Lo.mkd (a := ⟨wF.heap.size, 0, none⟩) L1
        replace LM := Lo.mkd (a := ⟨wF.heap.size, 0, none⟩) LM
        replace LE := Lo.mkd (a := ⟨wF.heap.size, 0, none⟩) LE
        replace LS := Lo.mkd (a := ⟨wF.heap.size, 0, none⟩) LS
        replace LF := Lo.mkd (a := ⟨wF.heap.size, 0, none⟩) LF
        clear hK K hH
        have hH := hH'
        clear hH'
        try simp only [Act.put, List.setIfInBounds_toArray, List.set_cons_zero, List.set_cons_succ, List.getElem_toArray, List.getElem_cons_succ, List.getElem_cons_zero]
        refine wpAnyH_ready (rs := [15]) (by kernel_rfl) (by simp) (AllReadyH.cons rfl (fun K hK => ?_) AllReadyH.nil)
        go_simp
        refine hK.out _ _ (held k0 k1 k2 hlt (hH.1.alloc _)) (fun hH' => ?_)
        clear hK K hH
        have hH := hH'
        clear hH'
        try simp only [Act.put, List.setIfInBounds_toArray, List.set_cons_zero, List.set_cons_succ, List.getElem_toArray, List.getElem_cons_succ, List.getElem_cons_zero]
        have hsz := hH.1.size
        refine wpAnyH_ready (rs := [16]) (by kernel_rfl) (by simp) (AllReadyH.cons rfl (fun K hK => ?_) AllReadyH.nil)
        go_simp
        refine (concat5 _ _ ⟨some ⟨wF.heap.size, 0, none⟩, 4, 4, mark⟩ ⟨AE, 4, cE, num 4 (e.setWidth 64)⟩ ⟨AS, 4, cS, num 4 (s.setWidth 64)⟩ ⟨AF, 1, cF, num 1 (BitVec.ofInt 64 f)⟩ ⟨A1, 2 + n, c1, text body⟩ _ (Cel.new _ _ _) (LM.alloc _) (LE.alloc _) (LS.alloc _) (LF.alloc _) (L1.alloc _) (15 + n) (by show 4 + (4 + (4 + (1 + (2 + n)))) = 15 + n; omega) (by omega)).mono ?_
        rintro r wC ⟨AC, cC, rfl, oC, bC⟩
        have OC := Lib.hid oC
        clear oC
        go_wp2_with fail
        refine hK.out _ _ (held k0 k1 k2 hlt (hH.1.call bC)) (fun hH' => ?_)
        clear hK K hH
        have hH := hH'
        clear hH'
        try simp only [Act.put, List.setIfInBounds_toArray, List.set_cons_zero, List.set_cons_succ, List.getElem_toArray, List.getElem_cons_succ, List.getElem_cons_zero]
        refine wpAnyH_ready (rs := [17]) (by kernel_rfl) (by simp) (AllReadyH.cons rfl (fun K hK => ?_) AllReadyH.nil)
        go_simp
        refine hK.out _ _ hH (fun _ => ?_)
        refine wpAnyH_done (by kernel_rfl) ?_ _
        clear hK K
        have hF := hH.1
        clear hH
        go_wp2_with fail
        go_ret
        exact ⟨AC, cC, rfl, OC.out.base (Nat.le_trans (Nat.le_of_lt hlt) hsz), fields_end HB1.out hF⟩
end Go.Proofs.YtdaknfepcbooeaaGreat.Sector
