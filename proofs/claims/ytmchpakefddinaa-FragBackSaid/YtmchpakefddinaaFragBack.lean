/-
  What davitlaw04.FragBack comes to: true.
-/
import Derived.Test.YtmchpakefddinaaFragKnows
namespace Go.Proofs.Ytmchpakefddinaa.Frag
open Go.RowKit
set_option linter.unusedVariables false
set_option linter.unusedSimpArgs false

theorem pcs_flags (f : Int) (bs : List (BitVec 8)) (hf : f = 0 ∨ f = 1) : ∀ y ∈ pcs f bs, 0 ≤ y.1 ∧ y.1 ≤ 3 := by
  induction h : bs.length using Nat.strongRecOn generalizing f bs with
  | ind n ih =>
    subst h
    rcases Nat.lt_or_ge 493 bs.length with hl | hl
    · rw [pcs_more hl]
      intro y hy
      rcases List.mem_cons.1 hy with rfl | hy
      · show 0 ≤ f ∧ f ≤ 3
        omega
      · exact ih (bs.drop 493).length (by rw [List.length_drop]; omega) 0 (bs.drop 493) (.inl rfl) rfl y hy
    · rw [pcs_last hl]
      intro y hy
      rw [List.mem_singleton.1 hy]
      show 0 ≤ f + 2 ∧ f + 2 ≤ 3
      omega
theorem parts_flags (ep : BitVec 32) : ∀ (sq : BitVec 32) (xs : List (Int × List (BitVec 8))), (∀ y ∈ xs, 0 ≤ y.1 ∧ y.1 ≤ 3) → ∀ p ∈ parts ep sq xs, fits p.flags
  | _, [], _, p, hp => by cases hp
  | sq, x :: xs, h, p, hp => by
    rw [parts] at hp
    rcases List.mem_cons.1 hp with rfl | hp
    · have := h x List.mem_cons_self
      exact ⟨this.1, by show x.1 < _; omega⟩
    · exact parts_flags ep _ xs (fun y hy => h y (List.mem_cons_of_mem _ hy)) p hp
theorem cut_fits (ep sq : BitVec 32) (bs : List (BitVec 8)) : ∀ p ∈ cut ep sq bs, fits p.flags := parts_flags ep sq _ (pcs_flags 1 bs (.inr rfl))

/-- A slice of records that came in. -/
structure Ri (w : World) (A : Option Addr) (n : Nat) (rs : List Rv) : Prop where
  len : rs.length = n
  at_ : ∀ i x, rs[i]? = some x → ∃ ad, A = some ad ∧ ad.block < w.heap.size ∧ w.cell? (ad.add i) = some (.slice x.A x.bs.length x.c) ∧ Bs w w.heap.size x.A x.bs.length x.bs ∧ x.bs.length ≤ x.c ∧ x.c ≤ maxLen
theorem Ri.rd {w : World} {A : Option Addr} {n : Nat} {rs : List Rv} (h : Ri w A n rs) : Rd w w.heap.size A n (rs.map (·.bs)) :=
  ⟨by rw [List.length_map, h.len], fun i b hi => by
    rw [List.getElem?_map] at hi
    obtain ⟨x, hx, rfl⟩ := Option.map_eq_some_iff.1 hi
    obtain ⟨ad, hA, hl, hc, hb, _⟩ := h.at_ i x hx
    exact ⟨ad, x.A, x.c, hA, hl, hc, hb⟩⟩

theorem Ri.of_rows {w : World} {a : Option Addr} {len cap : Nat} (h : (a = none ∧ len = 0 ∧ cap = 0) ∨
    ∃ x, a = some x ∧ len ≤ cap ∧ cap ≤ maxLen ∧ ∀ i, i < len → ∃ (a' : Option Addr) (l' c' : Nat) (zs : List Int), w.cell? (x.add i) = some (.slice a' l' c') ∧
      ((a' = none ∧ l' = 0 ∧ c' = 0 ∧ zs = []) ∨ ∃ x, a' = some x ∧ l' ≤ c' ∧ c' ≤ maxLen ∧ zs.length = c' ∧ (∀ i, i < zs.length → w.cell? (x.add i) = some (.int .u8 (zs.getD i 0))) ∧ ∀ n ∈ zs, (Lit.int .u8 n).wf = true)) :
    ∃ rs, Ri w a len rs ∧ len ≤ cap ∧ cap ≤ maxLen := by
  rcases h with ⟨rfl, rfl, rfl⟩ | ⟨x, rfl, hl, hm, he⟩
  · exact ⟨[], ⟨rfl, fun i x h => by simp at h⟩, Nat.le_refl _, Nat.zero_le _⟩
  · have hf : ∀ i, ∃ r : Rv, i < len → w.cell? (x.add i) = some (.slice r.A r.bs.length r.c) ∧ Bs w w.heap.size r.A r.bs.length r.bs ∧ r.bs.length ≤ r.c ∧ r.c ≤ maxLen := by
      intro i
      by_cases hi : i < len
      · obtain ⟨a', l', c', zs, hc, hr⟩ := he i hi
        obtain ⟨bs, hb, _⟩ := Bs.of_row hr
        have hcap := row_cap hr
        refine ⟨⟨bs, a', c'⟩, fun _ => ?_⟩
        dsimp only
        rw [hb.len]
        exact ⟨hc, hb, hcap.1, hcap.2⟩
      · exact ⟨⟨[], none, 0⟩, fun h => absurd h hi⟩
    obtain ⟨f, hf⟩ : ∃ f : Nat → Rv, ∀ i, i < len → w.cell? (x.add i) = some (.slice (f i).A (f i).bs.length (f i).c) ∧ Bs w w.heap.size (f i).A (f i).bs.length (f i).bs ∧ (f i).bs.length ≤ (f i).c ∧ (f i).c ≤ maxLen := ⟨fun i => Classical.choose (hf i), fun i => Classical.choose_spec (hf i)⟩
    refine ⟨(List.range len).map f, ⟨by simp, fun i r hr => ?_⟩, hl, hm⟩
    rw [List.getElem?_map] at hr
    obtain ⟨j, hj, rfl⟩ := Option.map_eq_some_iff.1 hr
    obtain ⟨hil, hji⟩ := List.getElem?_eq_some_iff.1 hj
    rw [List.getElem_range] at hji
    subst hji
    obtain ⟨h1, h2, h3, h4⟩ := hf i (by simpa using hil)
    have hb := cell_lt h1
    rw [add_block] at hb
    exact ⟨x, rfl, hb, h1, h2, h3, h4⟩

theorem wpList_append_row {P : Program} (w : World) {ops : Array Oper} {rest : List Oper} {o : Oper} {a : Act} {Q : Exit → Act → World → Prop} (hgd : o.guard = none) (s x : Operand) (t : TypeId)
    (ho : o.op = .call { callee := .builtin .append, args := #[s, x], argTypes := #[t, t] }) (base : Nat) (e : TypeId) (i : TypeInfo) (z : Value) (size bytes : Nat) (ht : P.underlying t = some (.slice e)) (hi : P.info? e = some i) (hz : i.zero = some z)
    (hsize : i.size = size) (hby : i.bytes = bytes) (hzs : z.cells.size = size) (hsz : 0 < size)
    (v : Value) (n : Nat) (us : List Value) (hs : a.eval s = v) (hown : w.ownsRow base e size v n us)
    (ad : Addr) (m c : Nat) (news : List Value) (hx : a.eval x = .slice (some ad) m c) (hl : news.length = m * size) (hnews : ∀ j u, news[j]? = some u → w.cell? (ad.add j) = some u) (h1 : ∀ u ∈ news, u.oneCell' = true)
    (h63 : n + m ≤ maxLen) (hbytes : (n + m) * bytes ≤ 140737488355328) (hbase : base ≤ w.heap.size) (hpos : 0 < n + m)
    (h : ∀ A' c' w', w'.ownsRow base e size (.slice A' (n + m) c') (n + m) (us ++ news) → w.grownBy w' v.ownBlock → wpList P ops Q rest (a.put o.dst (.slice A' (n + m) c')) w') : wpList P ops Q (o :: rest) a w :=
  wpList_plain hgd fun _ hK => wp_append_row w s x t ho base e i z size bytes ht hi hz hsize hby hzs hsz v n us hs hown ad m c news hx hl hnews h1 h63 hbytes hbase hpos fun A' c' w' h2 h3 => hK _ _ (h A' c' w' h2 h3)

set_option maxRecDepth 100000 in
set_option maxHeartbeats 1000000 in
theorem back_know (A : Option Addr) (n c : Nat) (pe ps : BitVec 32) (pf : Int) (pA : Option Addr) (pn pc : Nat) (w : World) (hm : n ≤ maxLen) (h : 10 < n ∨ pf < 0) :
    Calls Try.prog 4 #[.slice A n c, .agg #[v32 pe, v32 ps, .int .i64 pf, .slice pA pn pc]] w fun e w' => e = .returned (.bool true) ∧ Below w.heap.size w w' := by
  unfold maxLen at hm
  by_cases h1 : 10 < n
  · clear h
    go_enter Try.func4, Try.ntmps4
    go_wp2_with fail
    refine (knows _).mono ?_
    rintro r w1 ⟨rfl, hb1⟩
    simp only [World.size_alloc] at hb1
    go_wp2_with fail
    go_ret
    exact ⟨rfl, ((Below.refl _ _).alloc (Nat.le_refl _) _).trans (hb1.mono (by omega))⟩
  · have h2 : pf < 0 := by omega
    clear h
    go_enter Try.func4, Try.ntmps4
    go_wp2_with fail
    refine (knows _).mono ?_
    rintro r w1 ⟨rfl, hb1⟩
    simp only [World.size_alloc] at hb1
    go_wp2_with fail
    go_ret
    exact ⟨rfl, ((Below.refl _ _).alloc (Nat.le_refl _) _).trans (hb1.mono (by omega))⟩

theorem short_cuts {rs : List Rv} (h : ∀ x ∈ rs, x.bs.length ≤ 1500) : ∀ g ∈ (rs.map (·.bs)).map (cut 0#32 0#32), (g.flatMap (·.body)).length ≤ 100000 := by
  intro g hg
  obtain ⟨b, hb, rfl⟩ := List.mem_map.1 hg
  obtain ⟨x, hx, rfl⟩ := List.mem_map.1 hb
  rw [cut_body]
  have := h x hx
  omega

/-- While the law cuts: W0: the world with p's variable. -/
structure Bk (W0 : World) (rs : List Rv) (k : Nat) (v : Value) (wr : World) (xs : List Pv) : Prop where
  own : wr.ownsRow W0.heap.size 35 4 v xs.length (flat xs)
  pts : xs.map (·.p) = (rs.take k).flatMap (fun x => cut 0#32 0#32 x.bs)
  by_ : ∀ x ∈ xs, By wr x.A x.p.body.length x.p.body
  low : Below W0.heap.size W0 wr
  few : xs.length ≤ 4 * k
  shorts : ∀ x ∈ rs.take k, x.bs.length ≤ 1500

set_option maxRecDepth 100000 in
set_option maxHeartbeats 2000000 in
theorem back_walks (A : Option Addr) (n c : Nat) (rs : List Rv) (pe ps : BitVec 32) (pf : Int) (pA : Option Addr) (pn pc : Nat) (pbs : List (BitVec 8)) (w : World) (hl : Ri w A n rs) (hn : n ≤ 10) (hp : Bs w w.heap.size pA pn pbs) (h0 : 0 ≤ pf) (hf : fits pf) :
    Calls Try.prog 4 #[.slice A n c, .agg #[v32 pe, v32 ps, .int .i64 pf, .slice pA pn pc]] w fun e w' => e = .returned (.bool true) ∧ Below w.heap.size w w' := by
  obtain ⟨i0, hi, hz0, hz1, hz2⟩ := info_parts infoPart
  have HL := Lib.hid hl
  have HP := Lib.hid hp
  have HF := Lib.hid hf
  have hcp := Cel.new w 35 [v32 pe, v32 ps, .int .i64 pf, .slice pA pn pc]
  have HCP := Lib.hid hcp
  have hW0 : Below w.heap.size w (w.alloc (.cells #[v32 pe, v32 ps, .int .i64 pf, .slice pA pn pc] 35)) := (Below.refl _ _).alloc (Nat.le_refl _) _
  have HW0 := Lib.hid hW0
  have hsz0 : (w.alloc (.cells #[v32 pe, v32 ps, .int .i64 pf, .slice pA pn pc] 35)).heap.size = w.heap.size + 1 := by simp
  clear hl hp hf hcp hW0
  go_enter Try.func4, Try.ntmps4
  go_wp2_with fail
  generalize w.alloc (.cells #[v32 pe, v32 ps, .int .i64 pf, .slice pA pn pc] 35) = W0 at *
  go_loopw [5, 6] (fun v i wr => ∃ k : Nat, k ≤ n ∧ i = .int .i64 (k : Int) ∧ ∃ Av cv xs, v = .slice Av xs.length cv ∧ Bk W0 rs k v wr xs) (fun _ i _ => n - (intOf i).toNat)
  case atStart => exact ⟨0, Nat.zero_le _, rfl, none, 0, [], rfl, World.ownsRow_nil _ _ _ _, by simp, by simp, Below.refl _ _, by simp, by simp⟩
  case round =>
    obtain ⟨k, hk, rfl, Av, cv, xs, rfl, hB⟩ := hrel
    have HB := Lib.hid hB
    have hkm : k ≤ 10 := by omega
    have sb := hB.low.size
    clear hB
    by_cases hlt : k < n
    · obtain ⟨x, hx⟩ : ∃ x, rs[k]? = some x := ⟨_, List.getElem?_eq_getElem (by rw [HL.out.len]; exact hlt)⟩
      obtain ⟨ad, rfl, hadl, hcell, hxb, hxc1, hxc2⟩ := HL.out.at_ k x hx
      have hlow : Below w.heap.size w wr := HW0.out.trans (HB.out.low.mono (by omega))
      have hcr : wr.cell? (ad.add k) = some (.slice x.A x.bs.length x.c) := (hlow.cell (by rw [add_block]; exact hadl)).trans hcell
      have HXB := Lib.hid (hxb.below hlow)
      have HLO := Lib.hid hlow
      have HX := Lib.hid hx
      have hxcm : x.bs.length ≤ 9223372036854775807 := by unfold maxLen at hxc2; omega
      have HC2 := Lib.hid hxc2
      clear hcell hxb hlow hadl hx hxc2
      obtain ⟨xbs, xA, xc⟩ := x
      dsimp only at *
      generalize hxl : xbs.length = xn at *
      have HXL := Lib.hid hxl
      clear hxl
      by_cases hlong : 1500 < xn
      · go_wp2_with fail
        refine (knows _).mono ?_
        rintro r w1 ⟨rfl, hb1⟩
        go_wp2_with fail
        go_ret
        exact ⟨rfl, HLO.out.trans (hb1.mono HLO.out.size)⟩
      · go_wp2_with fail
        refine (cut_calls xA xn xc 0#32 0#32 xbs _ (HXB.out.more HLO.out.size) (by omega) hxc1 HC2.out).mono ?_
        rintro r w1 ⟨A1, m1, c1, ys, rfl, hys, hm1, ho1, hby1, hb1⟩
        have hy1 : ys.length = m1 := by rw [hm1, ← hys, List.length_map]
        subst hy1
        obtain ⟨g1, cap1, hv1, hg1, hl1⟩ := ho1.form (by rw [hm1]; exact cut_length_pos _ _ _)
        have hA1 : A1 = some ⟨g1, 0, none⟩ := by injection hv1
        subst hA1
        have hfew : ys.length ≤ 4 := by
          have := cut_length_le 0#32 0#32 xbs
          rw [HXL.out, ← hm1] at this
          omega
        have hxsl := HB.out.few
        have hown1 := own_below HB.out.own hb1
        have HO1 := Lib.hid ho1
        have HW1 := Lib.hid hown1
        have HY := Lib.hid hys
        have HBY := Lib.hid hby1
        have HB1 := Lib.hid hb1
        have hpos : 0 < ys.length := by rw [hm1]; exact cut_length_pos _ _ _
        have s1 := hb1.size
        clear ho1 hys hby1 hb1 hown1 hv1 hm1
        generalize hXL : xs.length = xl at *
        generalize hYL : ys.length = yl at *
        go_wp2_with ((at_builtin; refine wpList_append_row _ rfl _ _ 25 rfl W0.heap.size 35 i0 _ 4 40 Try.underlying25 hi hz0 hz1 hz2 rfl (by decide) (.slice Av xl cv) xl (flat xs) rfl HW1.out ⟨g1, 0, none⟩ yl c1 (flat ys) rfl (by rw [flat_length, hYL]) (HO1.out.cells (g := g1) rfl) (flat_one ys) (by unfold maxLen; omega) (by omega) (by omega) (by omega) ?_; intro A8 c8 w8 ho8 hg8))
        refine ⟨⟨k + 1, by omega, by go_num, A8, c8, xs ++ ys, by rw [List.length_append, hXL, hYL], ?_⟩, by simp [intOf]; omega⟩
        have hnb := not_bytes HW1.out (by decide)
        refine ⟨?_, ?_, ?_, (HB.out.low.trans (HB1.out.mono sb)).grown hg8 (by omega) (own_base HW1.out), by rw [List.length_append]; omega, ?_⟩
        · rw [List.length_append, hXL, hYL, flat_append]
          exact ho8
        · rw [List.map_append, HB.out.pts, HY.out, List.take_add_one, HX.out, List.flatMap_append]
          simp
        · intro z hz
          rcases List.mem_append.1 hz with hz | hz
          · exact ((HB.out.by_ z hz).below HB1.out).grown hg8 hnb
          · exact (HBY.out z hz).grown hg8 hnb
        · intro z hz
          rw [List.take_add_one, HX.out] at hz
          rcases List.mem_append.1 hz with hz | hz
          · exact HB.out.shorts z hz
          · have : z = ⟨xbs, xA, xc⟩ := by simpa using hz
            rw [this]
            show xbs.length ≤ 1500
            rw [HXL.out]
            omega
    · obtain rfl : k = n := by omega
      have hcw := HCP.out.below HB.out.low (by omega)
      have k0 := hcw.cell 0
      have k1 := hcw.cell 1
      have k2 := hcw.cell 2
      have k3 := hcw.cell 3
      have htk : rs.take k = rs := List.take_of_length_le (by rw [HL.out.len]; exact Nat.le_refl _)
      have HTK := Lib.hid htk
      have hxsl := HB.out.few
      have HPTS := Lib.hid (show xs.map (·.p) = rs.flatMap (fun x => cut 0#32 0#32 x.bs) from by rw [HB.out.pts, htk])
      have HCNT := Lib.hid (show ((rs.map (·.bs)).flatMap (cut 0#32 0#32)).length = xs.length from by rw [List.flatMap_map, ← HPTS.out, List.length_map])
      have HSH := Lib.hid (show ∀ x ∈ rs, x.bs.length ≤ 1500 from by have := HB.out.shorts; rwa [htk] at this)
      have hlow : Below w.heap.size w wr := HW0.out.trans (HB.out.low.mono (by omega))
      have HLR := Lib.hid hlow
      have HFX := Lib.hid (show ∀ x ∈ xs, fits x.p.flags from by
        intro x hx
        have h1 : x.p ∈ xs.map (·.p) := List.mem_map_of_mem hx
        rw [HPTS.out] at h1
        obtain ⟨y, _, hy⟩ := List.mem_flatMap.1 h1
        exact cut_fits _ _ _ _ hy)
      clear hcw htk hlow
      cases hpar : (pf % 2 == 0) with
      | true =>
        have hnb := not_bytes (HB.out.own.alloc (.cells #[v32 pe, v32 ps, .int .i64 pf, .slice pA pn pc] 35)) (by decide)
        have hcl : ∀ j u, ([v32 pe, v32 ps, .int .i64 pf, .slice pA pn pc] : List Value)[j]? = some u → (wr.alloc (.cells #[v32 pe, v32 ps, .int .i64 pf, .slice pA pn pc] 35)).cell? ((⟨wr.heap.size, 0, none⟩ : Addr).add j) = some u := by
          intro j u hu
          rw [add_row]
          exact ((Cel.new wr 35 [v32 pe, v32 ps, .int .i64 pf, .slice pA pn pc]).cell j).trans hu
        have HCL := Lib.hid hcl
        have HNB := Lib.hid hnb
        have HPAR := Lib.hid (show pf % 2 = 0 from by simpa using hpar)
        clear hcl hnb
        go_wp2_with ((at_builtin; refine wpList_append_row _ rfl _ _ 25 rfl W0.heap.size 35 i0 _ 4 40 Try.underlying25 hi hz0 hz1 hz2 rfl (by decide) (.slice Av xs.length cv) xs.length (flat xs) rfl (HB.out.own.alloc _) ⟨wr.heap.size, 0, none⟩ 1 1 [v32 pe, v32 ps, .int .i64 pf, .slice pA pn pc] rfl rfl HCL.out (by intro u hu; simp at hu; rcases hu with rfl | rfl | rfl | rfl <;> rfl) (by unfold maxLen; omega) (by omega) (by simp; omega) (by omega) ?_; intro A8 c8 w8 ho8 hg8))
        have hlw : Below w.heap.size w w8 := (HLR.out.alloc HLR.out.size _).grown hg8 (by have := HLR.out.size; simp; omega) (fun g e => Nat.le_trans (by omega) (own_base HB.out.own g e))
        have HLW := Lib.hid hlw
        have hpl := HP.out.len
        have HCAP := Lib.hid (own_cap ho8)
        have ho8' : w8.ownsRow W0.heap.size 35 4 (.slice A8 (xs.length + 1) c8) (xs.length + 1) (flat (xs ++ [(⟨⟨pe, ps, pf, pbs⟩, pA, pc⟩ : Pv)])) := by
          rw [flat_append]
          show w8.ownsRow _ _ _ _ _ (flat xs ++ [v32 pe, v32 ps, .int .i64 pf, .slice pA pbs.length pc])
          rw [hpl]
          exact ho8
        have HPR := Lib.hid (Pr.of_own ho8' (by rw [List.length_append]; rfl) (by
          intro z hz
          rcases List.mem_append.1 hz with hz | hz
          · exact (((HB.out.by_ z hz).alloc _).grown hg8 HNB.out).rd
          · rw [List.mem_singleton.1 hz]
            show Bs w8 w8.heap.size pA pbs.length pbs
            rw [hpl]
            exact (HP.out.below hlw).more hlw.size))
        have HGRP := Lib.hid (show grp ((xs ++ [(⟨⟨pe, ps, pf, pbs⟩, pA, pc⟩ : Pv)]).map (·.p)) = (rs.map (·.bs)).map (cut 0#32 0#32) from by
          rw [List.map_append, HPTS.out, ← List.flatMap_map (·.bs) (cut 0#32 0#32) rs]
          exact grp_cuts _ (lead_even HPAR.out) _)
        have HFIT := Lib.hid (show ∀ x ∈ xs ++ [(⟨⟨pe, ps, pf, pbs⟩, pA, pc⟩ : Pv)], fits x.p.flags from by
          intro z hz
          rcases List.mem_append.1 hz with hz | hz
          · exact HFX.out z hz
          · rw [List.mem_singleton.1 hz]; exact HF.out)
        have HGR := Lib.hid (show ∀ g ∈ grp ((xs ++ [(⟨⟨pe, ps, pf, pbs⟩, pA, pc⟩ : Pv)]).map (·.p)), (g.flatMap (·.body)).length ≤ 100000 from by
          rw [HGRP.out]
          exact short_cuts HSH.out)
        clear ho8 ho8' hg8 hlw
        refine (join_calls _ _ _ (xs ++ [(⟨⟨pe, ps, pf, pbs⟩, pA, pc⟩ : Pv)]) _ HPR.out (by omega) HCAP.out.1 HCAP.out.2 HFIT.out HGR.out).mono ?_
        rintro r w9 ⟨A9, m9, c9, qs, rfl, hqs, hm9, ho9, hby9, hb9⟩
        rw [HGRP.out, bodies_cuts] at hqs
        have hus : used (grp ((xs ++ [(⟨⟨pe, ps, pf, pbs⟩, pA, pc⟩ : Pv)]).map (·.p))) = xs.length := by rw [HGRP.out, used_cuts]; exact HCNT.out
        rw [hus]
        have hrd9 := Rd.of_own ho9 hby9
        rw [hqs] at hrd9
        have hm9' : m9 = k := by rw [hm9, ← HL.out.len, ← List.length_map (f := (·.bs)), hqs, List.length_map]
        subst hm9'
        have HB9 := Lib.hid (HLW.out.trans (hb9.mono HLW.out.size))
        have hrl : Rd w9 w.heap.size A m9 (rs.map (·.bs)) := HL.out.rd.below HB9.out
        have HR1 := Lib.hid hrd9
        have HR2 := Lib.hid (hrl.more HB9.out.size)
        clear ho9 hby9 hb9 hrd9 hrl hus hqs hm9
        go_wp2_with fail
        refine (refSame A9 A m9 c9 c (rs.map (·.bs)) w9.heap.size _ HR1.out HR2.out (Nat.le_refl _) (by omega)).mono ?_
        rintro r w10 ⟨rfl, hb10⟩
        have HB10 := Lib.hid (HB9.out.trans (hb10.mono HB9.out.size))
        clear hb10
        go_wp2_with fail
        refine (knows _).mono ?_
        rintro r w11 ⟨rfl, hb11⟩
        go_wp2_with fail
        go_ret
        exact ⟨rfl, HB10.out.trans (hb11.mono HB10.out.size)⟩
      | false =>
        have HLW := Lib.hid HLR.out
        have HCAP := Lib.hid (own_cap HB.out.own)
        have HPR := Lib.hid (Pr.of_own HB.out.own rfl (fun z hz => (HB.out.by_ z hz).rd))
        have HGRP := Lib.hid (show grp (xs.map (·.p)) = (rs.map (·.bs)).map (cut 0#32 0#32) from by
          rw [HPTS.out, ← List.flatMap_map (·.bs) (cut 0#32 0#32) rs]
          have := grp_cuts [] rfl (rs.map (·.bs))
          rwa [List.append_nil] at this)
        have HFIT := HFX
        have HGR := Lib.hid (show ∀ g ∈ grp (xs.map (·.p)), (g.flatMap (·.body)).length ≤ 100000 from by
          rw [HGRP.out]
          exact short_cuts HSH.out)
        go_wp2_with fail
        refine (join_calls _ _ _ xs _ HPR.out (by omega) HCAP.out.1 HCAP.out.2 HFIT.out HGR.out).mono ?_
        rintro r w9 ⟨A9, m9, c9, qs, rfl, hqs, hm9, ho9, hby9, hb9⟩
        rw [HGRP.out, bodies_cuts] at hqs
        have hus : used (grp (xs.map (·.p))) = xs.length := by rw [HGRP.out, used_cuts]; exact HCNT.out
        rw [hus]
        have hrd9 := Rd.of_own ho9 hby9
        rw [hqs] at hrd9
        have hm9' : m9 = k := by rw [hm9, ← HL.out.len, ← List.length_map (f := (·.bs)), hqs, List.length_map]
        subst hm9'
        have HB9 := Lib.hid (HLW.out.trans (hb9.mono HLW.out.size))
        have hrl : Rd w9 w.heap.size A m9 (rs.map (·.bs)) := HL.out.rd.below HB9.out
        have HR1 := Lib.hid hrd9
        have HR2 := Lib.hid (hrl.more HB9.out.size)
        clear ho9 hby9 hb9 hrd9 hrl hus hqs hm9
        go_wp2_with fail
        refine (refSame A9 A m9 c9 c (rs.map (·.bs)) w9.heap.size _ HR1.out HR2.out (Nat.le_refl _) (by omega)).mono ?_
        rintro r w10 ⟨rfl, hb10⟩
        have HB10 := Lib.hid (HB9.out.trans (hb10.mono HB9.out.size))
        clear hb10
        go_wp2_with fail
        refine (knows _).mono ?_
        rintro r w11 ⟨rfl, hb11⟩
        go_wp2_with fail
        go_ret
        exact ⟨rfl, HB10.out.trans (hb11.mono HB10.out.size)⟩
theorem back_walk (A : Option Addr) (n c : Nat) (rs : List Rv) (pe ps : BitVec 32) (pf : Int) (pA : Option Addr) (pn pc : Nat) (pbs : List (BitVec 8)) (w : World) (hl : Ri w A n rs) (hnc : n ≤ c) (hc : c ≤ maxLen) (hp : Bs w w.heap.size pA pn pbs) (hf : (Lit.int .i64 pf).wf = true) :
    Calls Try.prog 4 #[.slice A n c, .agg #[v32 pe, v32 ps, .int .i64 pf, .slice pA pn pc]] w fun e w' => e = .returned (.bool true) ∧ Below w.heap.size w w' := by
  by_cases h : 10 < n ∨ pf < 0
  · exact back_know A n c pe ps pf pA pn pc w (Nat.le_trans hnc hc) h
  · have hfit : fits pf := by
      simp [Lit.wf, IntKind.min, IntKind.max, IntKind.bits, IntKind.signed] at hf
      exact ⟨by omega, by omega⟩
    exact back_walks A n c rs pe ps pf pA pn pc pbs w hl (by omega) hp hfit.1 hfit
end Go.Proofs.Ytmchpakefddinaa.Frag
