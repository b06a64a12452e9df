/-
  The law SegmentTurned walked.
-/
import Derived.Test.YtbomgglmplecpaaMCrcA
import Derived.Test.YtbomgglmplecpaaMFragRefCut
import Derived.Test.YtbomgglmplecpaaMSegKnows
import Derived.Test.YtbomgglmplecpaaMSectorRef
namespace Go.Proofs.Ytbomgglmplecpaa.Segm
open Go.RowKit
open Go.Proofs.Ytbomgglmplecpaa.Frag (cut Pv flat Pr own_base own_below wpList_append_row Ri Rd CutSays)
open Go.Proofs.Ytbomgglmplecpaa.Sector (partV)
open Go.Proofs.Ytbomgglmplecpaa.Crc (flip flip_len flip_zero flip_succ flip_bits shl_D xor_D)
open Go.Proofs.Ytbomgglmplecpaa.Ord
set_option linter.unusedVariables false
set_option linter.unusedSimpArgs false

/-- Sectors that were made one after the other, each in a row of its own, and the row of these. -/
structure Al (w0 w : World) (v : Value) (xs : List (Nat × Nat)) (L : List (List (BitVec 8))) : Prop where
  own : w.ownsRow w0.heap.size 33 1 v xs.length (xs.map fun x => Value.slice (some ⟨x.1, 0, none⟩) 512 x.2)
  len : L.length = xs.length
  wb : ∀ (i : Nat) (x : Nat × Nat) (b : List (BitVec 8)), xs[i]? = some x → L[i]? = some b → b.length = 512 ∧ w.ownsRow w0.heap.size 5 1 (.slice (some ⟨x.1, 0, none⟩) 512 x.2) 512 (b.map v8)
  ne : ∀ (i j : Nat) (x y : Nat × Nat), xs[i]? = some x → xs[j]? = some y → i ≠ j → x.1 ≠ y.1
  low : Below w0.heap.size w0 w
namespace Al
variable {w0 w w' : World} {v : Value} {xs : List (Nat × Nat)} {L : List (List (BitVec 8))}
theorem nil_ (w0 : World) : Al w0 w0 (.slice none 0 0) [] [] := ⟨World.ownsRow_nil _ _ _ _, rfl, by simp, by simp, Below.refl _ _⟩
theorem below (h : Al w0 w v xs L) (hb : Below w.heap.size w w') : Al w0 w' v xs L :=
  ⟨own_below h.own hb, h.len, fun i x b hx hb' => ⟨(h.wb i x b hx hb').1, own_below (h.wb i x b hx hb').2 hb⟩, h.ne, h.low.trans (hb.mono h.low.size)⟩
theorem get (h : Al w0 w v xs L) {i : Nat} {x : Nat × Nat} (hx : xs[i]? = some x) : ∃ b, L[i]? = some b := by
  have hi : i < xs.length := (List.getElem?_eq_some_iff.1 hx).1
  exact ⟨_, List.getElem?_eq_getElem (by rw [h.len]; exact hi)⟩
theorem lt (h : Al w0 w v xs L) {i : Nat} {x : Nat × Nat} (hx : xs[i]? = some x) : w0.heap.size ≤ x.1 ∧ x.1 < w.heap.size := by
  obtain ⟨b, hb⟩ := h.get hx
  exact World.ownsRow.lt (h.wb i x b hx hb).2 x.1 rfl
/-- One more sector. -/
theorem snoc (h : Al w0 w v xs L) {g c : Nat} {b : List (BitVec 8)} (hl : b.length = 512) (hn : ∀ (i : Nat) (x : Nat × Nat), xs[i]? = some x → x.1 ≠ g) (ho : w.ownsRow w0.heap.size 5 1 (.slice (some ⟨g, 0, none⟩) 512 c) 512 (b.map v8))
    {v' : Value} (ho' : w'.ownsRow w0.heap.size 33 1 v' (xs.length + 1) ((xs.map fun x => Value.slice (some ⟨x.1, 0, none⟩) 512 x.2) ++ [.slice (some ⟨g, 0, none⟩) 512 c])) (hg : w.grownBy w' v.ownBlock) :
    Al w0 w' v' (xs ++ [(g, c)]) (L ++ [b]) := by
  have hnb := not_bytes h.own (by decide)
  have hkeep : ∀ (g' c' : Nat) (us : List Value), w.ownsRow w0.heap.size 5 1 (.slice (some ⟨g', 0, none⟩) 512 c') 512 us → w'.ownsRow w0.heap.size 5 1 (.slice (some ⟨g', 0, none⟩) 512 c') 512 us := by
    intro g' c' us hr
    refine World.ownsRow.kept hr hg (.inr ?_)
    intro e
    obtain ⟨_, h2⟩ := hr
    rcases h2 with ⟨hv, _⟩ | ⟨g2, cap, cur, hv, _, hg2, _⟩
    · cases hv
    · injection hv with hv1
      injection hv1 with hv1
      injection hv1 with hv1
      subst hv1
      exact hnb g' cur (0, 0) (by rw [← e]; rfl) hg2
  refine ⟨?_, by rw [List.length_append, List.length_append, h.len]; rfl, ?_, ?_, h.low.grown hg h.low.size (own_base h.own)⟩
  · rw [List.length_append, List.map_append]
    exact ho'
  · intro i x b' hx hb'
    rcases Nat.lt_or_ge i xs.length with hi | hi
    · rw [List.getElem?_append_left hi] at hx
      rw [List.getElem?_append_left (by rw [h.len]; exact hi)] at hb'
      exact ⟨(h.wb i x b' hx hb').1, hkeep _ _ _ (h.wb i x b' hx hb').2⟩
    · rw [List.getElem?_append_right hi] at hx
      rw [List.getElem?_append_right (by rw [h.len]; exact hi), h.len] at hb'
      have hi0 : i - xs.length = 0 := by
        have := (List.getElem?_eq_some_iff.1 hx).1
        simpa using this
      rw [hi0] at hx hb'
      cases hx
      cases hb'
      exact ⟨hl, hkeep _ _ _ ho⟩
  · intro i j x y hx hy hij
    rcases Nat.lt_or_ge i xs.length with hi | hi
    · rw [List.getElem?_append_left hi] at hx
      rcases Nat.lt_or_ge j xs.length with hj | hj
      · rw [List.getElem?_append_left hj] at hy
        exact h.ne i j x y hx hy hij
      · rw [List.getElem?_append_right hj] at hy
        have hj0 : j - xs.length = 0 := by
          have := (List.getElem?_eq_some_iff.1 hy).1
          simpa using this
        rw [hj0] at hy
        cases hy
        exact hn i x hx
    · rw [List.getElem?_append_right hi] at hx
      have hi0 : i - xs.length = 0 := by
        have := (List.getElem?_eq_some_iff.1 hx).1
        simpa using this
      rw [hi0] at hx
      cases hx
      rcases Nat.lt_or_ge j xs.length with hj | hj
      · rw [List.getElem?_append_left hj] at hy
        exact fun e => hn j y hy e.symm
      · rw [List.getElem?_append_right hj] at hy
        have hj0 : j - xs.length = 0 := by
          have := (List.getElem?_eq_some_iff.1 hy).1
          simpa using this
        omega
/-- A byte of one sector written. -/
theorem set (h : Al w0 w v xs L) {i k : Nat} {x : Nat × Nat} {b : List (BitVec 8)} (hx : xs[i]? = some x) (hb : L[i]? = some b) (u : BitVec 8) : Al w0 (w.setCell ⟨x.1, k, none⟩ (v8 u)) v xs (L.set i (b.set k u)) := by
  obtain ⟨h1, h2⟩ := h.wb i x b hx hb
  obtain ⟨h3, h4⟩ := World.ownsRow.stored h2 k (v8 u)
  have hnb := not_bytes h.own (by decide)
  have hxc : ∃ cur, w.heap[x.1]? = some (.cells cur 5 (0, 0)) := by
    rcases h2.2 with ⟨hv, _⟩ | ⟨g2, cap, cur, hv, _, hg2, _⟩
    · cases hv
    · injection hv with hv1
      injection hv1 with hv1
      injection hv1 with hv1
      exact ⟨cur, by rw [hv1]; exact hg2⟩
  obtain ⟨cur, hcur⟩ := hxc
  refine ⟨World.ownsRow.kept h.own h4 (.inr fun e => hnb x.1 cur (0, 0) e hcur), by rw [List.length_set, h.len], ?_, h.ne, h.low.setCell (h.lt hx).1 _⟩
  intro j y b' hy hb'
  by_cases hij : i = j
  · subst hij
    rw [hx] at hy
    cases hy
    rw [List.getElem?_set_self (by rw [h.len]; exact (List.getElem?_eq_some_iff.1 hx).1)] at hb'
    cases hb'
    refine ⟨by rw [List.length_set]; exact h1, ?_⟩
    rw [List.map_set]
    exact h3
  · rw [List.getElem?_set_ne hij] at hb'
    obtain ⟨h5, h6⟩ := h.wb j y b' hy hb'
    exact ⟨h5, World.ownsRow.kept h6 h4 (.inr fun e => h.ne i j x y hx hy hij (by injection e with e; exact e.symm))⟩
/-- As what Scan takes. -/
theorem rd {A : Option Addr} {n c : Nat} (h : Al w0 w (.slice A n c) xs L) (hn : n = xs.length) : Rd w w.heap.size A n L := by
  refine ⟨by rw [h.len, hn], fun i b hi => ?_⟩
  have hil : i < xs.length := by rw [← h.len]; exact (List.getElem?_eq_some_iff.1 hi).1
  obtain ⟨x, hx⟩ : ∃ x, xs[i]? = some x := ⟨_, List.getElem?_eq_getElem hil⟩
  obtain ⟨h1, h2⟩ := h.wb i x b hx hi
  obtain ⟨g, cap, hv, hg, hl⟩ := h.own.form (by omega)
  have hA : A = some ⟨g, 0, none⟩ := by injection hv
  subst hA
  refine ⟨_, some ⟨x.1, 0, none⟩, x.2, rfl, hl, ?_, ?_⟩
  · rw [h1]
    exact World.ownsRow.cells h.own (g := g) rfl i _ (by rw [List.getElem?_map, hx]; rfl)
  · rw [h1]
    exact (By.of_own h2).rd
end Al

/-- Rows of elements of two types lie in two blocks. -/
theorem own_apart {w : World} {b1 e1 s1 n1 b2 e2 s2 n2 : Nat} {v1 v2 : Value} {xs1 xs2 : List Value} (h1 : w.ownsRow b1 e1 s1 v1 n1 xs1) (h2 : w.ownsRow b2 e2 s2 v2 n2 xs2) (hne : e1 ≠ e2) : v1.ownBlock = none ∨ v1.ownBlock ≠ v2.ownBlock := by
  rcases h1.2 with ⟨rfl, _⟩ | ⟨g, cap, cur, rfl, _, hg, _⟩
  · exact .inl rfl
  · right
    intro e
    rcases h2.2 with ⟨rfl, _⟩ | ⟨g2, cap2, cur2, rfl, _, hg2, _⟩
    · cases e
    · injection e with e
      dsimp only at e
      subst e
      rw [hg] at hg2
      injection hg2 with hg2
      injection hg2 with _ h3
      exact hne h3

set_option maxRecDepth 100000 in
set_option maxHeartbeats 1000000 in
theorem ends_call (A : Option Addr) (n c q : Nat) (ep : BitVec 32) (L : List (List (BitVec 8))) (b : List (BitVec 8)) (w : World) (hL : Rd w w.heap.size A n L) (hm : ∀ b ∈ L, b.length ≤ maxLen) (hn : n ≤ 200) (hb : L[q]? = some b) (hg : Sector.get b = none) :
    Calls Try.prog 17 #[.slice A n c, v32 ep, .int .i64 (q : Int)] w fun r w' => r = .returned (.bool true) ∧ Below w.heap.size w w' := by
  have con := scan_call A n c ep L w hL hm hn
  have hu : scanUsed ep L ≤ q := used_stop ep q L b hb hg
  have d0 : decide ((q : Int) < 0) = false := by rw [decide_eq_false_iff_not]; omega
  have d1 : decide (scanUsed ep L ≤ q) = true := by simp; omega
  clear hL hm hb hg hu
  go_enter Try.func17, Try.ntmps17
  go_wp2_with fail
  refine con.mono ?_
  clear con
  rintro r w1 ⟨A1, c1, rs, rfl, hrs, ho1, hby1, hb1⟩
  clear hrs ho1 hby1
  generalize scanUsed ep L = us at *
  go_wp2_with fail
  go_ret
  exact ⟨rfl, hb1⟩
theorem get_flip (p : Sector.Pt) (hm : p.may = true) (t : BitVec 32) (ht : t ≠ 0#32) (f q s k : Nat) (hf : f + 32 ≤ 4096) (hq : q = f / 8) (hs : s = f % 8) (D : BitVec 64) (hD : t.setWidth 64 <<< s = D) (hk : k = 5 ∨ 512 ≤ q + k) : Sector.get (flip (Sector.sec p) q D k) = none := by
  have hl := Sector.sec_length hm
  refine Sector.get_turned p hm _ t f (by rw [flip_len, hl]) hf ht fun i hi => ?_
  rw [← hD]
  exact flip_bits (Sector.sec p) t f q s k hq hs (by rw [hl]; exact hk) i (by omega)

set_option maxRecDepth 100000 in
set_option maxHeartbeats 1000000 in
theorem turned_know (A : Option Addr) (n c : Nat) (ep : BitVec 32) (wh : BitVec 8) (at_ : BitVec 16) (t : BitVec 32) (w : World) (hn : n ≤ maxLen) (h : n < 1 ∨ 10 < n ∨ t = 0#32) :
    Calls Try.prog 4 #[.slice A n c, v32 ep, v8 wh, .int .u16 (at_.toNat : Int), v32 t] w fun r w' => r = .returned (.bool true) ∧ Below w.heap.size w w' := by
  unfold maxLen at hn
  by_cases h1 : n < 1
  · have : n = 0 := by omega
    subst this
    clear h h1
    go_enter Try.func4, Try.ntmps4
    go_wp2_with fail
    refine (knows _).mono ?_
    rintro r w1 ⟨rfl, hb1⟩
    go_wp2_with fail
    go_ret
    exact ⟨rfl, hb1⟩
  · by_cases h2 : 10 < n
    · clear h
      go_enter Try.func4, Try.ntmps4
      go_wp2_with fail
      refine (knows _).mono ?_
      rintro r w1 ⟨rfl, hb1⟩
      go_wp2_with fail
      go_ret
      exact ⟨rfl, hb1⟩
    · have h3 : t = 0#32 := by
        rcases h with h | h | h
        · omega
        · omega
        · exact h
      subst h3
      have e : v32 0#32 = .int .u32 0 := rfl
      rw [e]
      clear h e
      go_enter Try.func4, Try.ntmps4
      go_wp2_with fail
      refine (knows _).mono ?_
      rintro r w1 ⟨rfl, hb1⟩
      go_wp2_with fail
      go_ret
      exact ⟨rfl, hb1⟩

theorem sec_of {p : Frag.Pt} (h : (toS p).may = true) : ∃ q : Sector.Pt, q.may = true ∧ secP p = Sector.sec q := ⟨toS p, h, rfl⟩
theorem ref_may {ep sq : BitVec 32} {bs : List (BitVec 8)} {xs : List Pv} (h : xs.map (·.p) = Frag.parts ep sq (Frag.pcs (Frag.headF true) bs)) : ∀ x ∈ xs, (toS x.p).may = true := fun x hx => by
  have h1 : x.p ∈ xs.map (·.p) := List.mem_map_of_mem hx
  rw [h] at h1
  exact cut_may ep sq bs _ h1

set_option maxRecDepth 100000 in
set_option maxHeartbeats 2000000 in
theorem turned_yes (A : Option Addr) (n c : Nat) (ep : BitVec 32) (wh : BitVec 8) (at_ : BitVec 16) (t : BitVec 32) (rs : List Frag.Rv) (w : World) (hl : Ri w A n rs) (h1n : 1 ≤ n) (hn : n ≤ 10) (ht : t ≠ 0#32) :
    Calls Try.prog 4 #[.slice A n c, v32 ep, v8 wh, .int .u16 (at_.toNat : Int), v32 t] w fun r w' => r = .returned (.bool true) ∧ Below w.heap.size w w' := by
  obtain ⟨i0, hi, hz0, hz1, hz2⟩ := info_parts Frag.infoRec
  have d3 : ((t.toNat : Int) == 0) = false := by
    rw [beq_eq_false_iff_ne]
    intro h0
    exact ht (BitVec.eq_of_toNat_eq (by simpa using h0))
  have HL := Lib.hid hl
  have HT := Lib.hid ht
  have HI := Lib.hid hi
  have HZ0 := Lib.hid hz0
  have HZ1 := Lib.hid hz1
  have HZ2 := Lib.hid hz2
  clear hl ht hi hz0 hz1 hz2
  obtain ⟨f, hf, hf2⟩ : ∃ f : Nat, (at_.toNat : Int) % (4065 : Int) = (f : Int) ∧ f + 32 ≤ 4096 := ⟨at_.toNat % 4065, by omega, by omega⟩
  obtain ⟨q, hq, hq2⟩ : ∃ q : Nat, (f : Int) / (8 : Int) = (q : Int) ∧ q = f / 8 := ⟨f / 8, by omega, rfl⟩
  obtain ⟨s, hs, hs2⟩ : ∃ s : Nat, (f : Int) % (8 : Int) = (s : Int) ∧ s = f % 8 := ⟨f % 8, by omega, rfl⟩
  have hs3 : s < 8 := by omega
  have hqb : q ≤ 511 := by omega
  have HQ := Lib.hid hq2
  have HS := Lib.hid hs2
  have HF2 := Lib.hid hf2
  have HFE := Lib.hid hf
  have HQE := Lib.hid hq
  have HSE := Lib.hid hs
  clear hq2 hs2 hf2 hf hq hs
  have hnI : decide ((n : Int) < 1) = false := by simp; omega
  go_enter Try.func4, Try.ntmps4
  go_wp2_with fail
  go_loopw [11, 12] (fun v i wr => ∃ k : Nat, k ≤ n ∧ i = .int .i64 (k : Int) ∧ ∃ Av cv xs L, v = .slice Av xs.length cv ∧ Al w wr v xs L ∧ k ≤ xs.length ∧ xs.length ≤ 3 * k ∧ (∀ b ∈ L, ∃ p : Sector.Pt, p.may = true ∧ b = Sector.sec p)) (fun _ i _ => n - (intOf i).toNat)
  case atStart => exact ⟨0, Nat.zero_le _, rfl, none, 0, [], [], rfl, Al.nil_ w, Nat.le_refl _, Nat.zero_le _, by simp⟩
  case round =>
    obtain ⟨k, hk, rfl, Av, cv, xs, L, rfl, hB, hk1, hk3, hsec⟩ := hrel
    have HB := Lib.hid hB
    have HSC := Lib.hid hsec
    have hkm : k ≤ 10 := by omega
    have sb := hB.low.size
    clear hB hsec
    by_cases hlt : k < n
    · obtain ⟨x, hx⟩ : ∃ x, rs[k]? = some x := ⟨_, List.getElem?_eq_getElem (by rw [HL.out.len]; exact hlt)⟩
      obtain ⟨ad, rfl, hadl, hcell, hxb, hxc1, hxc2⟩ := HL.out.at_ k x hx
      have hlow := HB.out.low
      have hcr : wr.cell? (ad.add k) = some (.slice x.A x.bs.length x.c) := (hlow.cell (by rw [add_block]; exact hadl)).trans hcell
      have HXB := Lib.hid (hxb.below hlow)
      have HC2 := Lib.hid hxc2
      have hxcm : x.bs.length ≤ 9223372036854775807 := by unfold maxLen at hxc2; omega
      clear hcell hxb hlow hadl hx hxc2
      obtain ⟨xbs, xA, xc⟩ := x
      dsimp only at *
      generalize hxl : xbs.length = xn at *
      have HXL := Lib.hid hxl
      clear hxl
      by_cases hlong : 1200 < xn
      · go_wp2_with fail
        refine (knows _).mono ?_
        rintro r w1 ⟨rfl, hb1⟩
        go_wp2_with fail
        go_ret
        exact ⟨rfl, HB.out.low.trans (hb1.mono sb)⟩
      · have hsqw : (xs.length : Int) % 4294967296 = (xs.length : Int) := by omega
        have hsq : ((BitVec.ofNat 32 xs.length).toNat : Int) = (xs.length : Int) := by rw [BitVec.toNat_ofNat]; omega
        generalize BitVec.ofNat 32 xs.length = sq at hsq
        have con := Frag.refCut xn xA xn xc ep sq true xbs w.heap.size wr (Nat.le_refl _) HXB.out sb hxc1 HC2.out (by omega)
        have he : v32 sq = .int .u32 (xs.length : Int) := by unfold v32; rw [hsq]
        rw [he] at con
        clear he hsq
        have HCON := Lib.hid con
        clear con
        go_wp2_with fail
        refine HCON.out.mono ?_
        clear HCON
        rintro r w1 ⟨A1, m1, c1, ys, rfl, hys, rfl, ho1, hby1, hb1⟩
        have hyl : ys.length ≤ 3 ∧ 1 ≤ ys.length := by
          have h1 := congrArg List.length hys
          rw [List.length_map, Frag.parts_length] at h1
          have h2 := Frag.pcs_length_le (Frag.headF true) xbs
          have h3 := Frag.pcs_length_pos (Frag.headF true) xbs
          rw [HXL.out] at h2
          omega
        obtain ⟨hyl3, hyl1⟩ := hyl
        have HMAY := Lib.hid (ref_may hys)
        obtain ⟨g1, cap1, hv1, hg1, hl1⟩ := ho1.form hyl1
        obtain ⟨ad1, rfl⟩ : ∃ ad1, A1 = some ad1 := ⟨⟨g1, 0, none⟩, by injection hv1⟩
        have HO1 := Lib.hid ho1
        have HBY := Lib.hid hby1
        have HB1 := Lib.hid (HB.out.below hb1)
        have hw1 : wr.heap.size ≤ w1.heap.size := hb1.size
        clear hys ho1 hby1 hb1 hv1 hg1 hl1 hsqw
        go_wp2_with fail
        obtain ⟨W0, rfl⟩ : ∃ W0, W0 = wr := ⟨_, rfl⟩
        go_loopw [11, 14] (fun v i w2 => ∃ j : Nat, j ≤ ys.length ∧ i = .int .i64 (j : Int) ∧ ∃ Av2 cv2 xs2 L2, v = .slice Av2 xs2.length cv2 ∧ Al w w2 v xs2 L2 ∧ xs2.length = xs.length + j ∧ (∀ b ∈ L2, ∃ p : Sector.Pt, p.may = true ∧ b = Sector.sec p) ∧ w2.ownsRow W0.heap.size 48 4 (.slice (some ad1) ys.length c1) ys.length (flat ys)) (fun _ i _ => ys.length - (intOf i).toNat)
        case atStart => exact ⟨0, Nat.zero_le _, rfl, Av, cv, xs, L, rfl, HB1.out, rfl, HSC.out, HO1.out⟩
        case round =>
          obtain ⟨j, hj, rfl, Av2, cv2, xs2, L2, rfl, hA2, hx2, hsec2, hp2⟩ := hrel
          have HA2 := Lib.hid hA2
          have HSC2 := Lib.hid hsec2
          have HP2 := Lib.hid hp2
          have s2 := hA2.low.size
          clear hA2 hsec2 hp2
          by_cases hjl : j < ys.length
          · have hpr : Pr wr wr.heap.size (some ad1) ys.length ys := Frag.Pr.of_own HP2.out rfl (fun x hx => ((HBY.out x hx).keep fun p hp => (HA2.out.low.cell hp).trans (HB1.out.low.cell hp).symm).more s2)
            obtain ⟨ad1', y, hA', hy, hyb, hadl1, e0, e1, e2, e3⟩ := hpr.at_ hjl
            cases hA'
            have HY := Lib.hid hy
            have HYB := Lib.hid hyb
            have HM := Lib.hid (HMAY.out y (List.mem_of_getElem? hy))
            clear hpr hy hyb hadl1
            obtain ⟨⟨pe, ps, pf, pb⟩, yA, yc⟩ := y
            dsimp only at e0 e1 e2 e3
            have con := Sector.refPut ⟨pe, ps, pf, pb⟩ wr.heap.size yA pb.length yc wr HYB.out (Nat.le_refl _) HM.out
            have HCON := Lib.hid con
            clear con
            go_wp2_with fail
            refine HCON.out.mono ?_
            clear HCON e0 e1 e2 e3
            rintro r w3 ⟨A3, c3, rfl, ho3, hb3⟩
            obtain ⟨g3, cap3, hv3, hg3, hl3⟩ := World.ownsRow.form ho3 (by decide)
            obtain rfl : A3 = some ⟨g3, 0, none⟩ := by injection hv3
            obtain rfl : c3 = cap3 := by injection hv3
            have hbW : Below wr.heap.size wr (w3.alloc (.cells #[.slice (some ⟨g3, 0, none⟩) 512 c3] 33)) := hb3.alloc hb3.size _
            have hA4 := HA2.out.below hbW
            have HA4 := Lib.hid hA4
            have hO4 := hA4.own
            rw [hx2] at hO4
            have HO4 := Lib.hid hO4
            have HP4 := Lib.hid (own_below HP2.out hbW)
            have HO3 := Lib.hid (World.ownsRow.alloc (World.ownsRow.mono ho3 s2) (.cells #[.slice (some ⟨g3, 0, none⟩) 512 c3] 33))
            have hcl : ∀ j u, ([.slice (some ⟨g3, 0, none⟩) 512 c3] : List Value)[j]? = some u → (w3.alloc (.cells #[.slice (some ⟨g3, 0, none⟩) 512 c3] 33)).cell? ((⟨w3.heap.size, 0, none⟩ : Addr).add j) = some u := by
              intro j u hu
              rw [add_row]
              exact ((Cel.new w3 33 [.slice (some ⟨g3, 0, none⟩) 512 c3]).cell j).trans hu
            have HCL := Lib.hid hcl
            have hs3w : wr.heap.size ≤ w3.heap.size := hb3.size
            clear ho3 hb3 hv3 hl3 hbW hA4 hO4 hcl
            generalize hXL2 : xs2.length = xl2 at *
            subst hx2
            go_wp2_with ((at_builtin; refine wpList_append_row _ rfl _ _ 22 rfl w.heap.size 33 i0 _ 1 24 Try.underlying22 HI.out HZ0.out HZ1.out HZ2.out rfl (by decide) (.slice Av2 (xs.length + j) cv2) (xs.length + j) _ rfl HO4.out ⟨w3.heap.size, 0, none⟩ 1 1 [.slice (some ⟨g3, 0, none⟩) 512 c3] rfl rfl HCL.out (by intro u hu; simp at hu; rcases hu with rfl; rfl) (by unfold maxLen; omega) (by omega) (by simp; omega) (by omega) ?_; intro A8 c8 w8 ho8 hg8))
            have hlen := Sector.sec_length (p := ⟨pe, ps, pf, pb⟩) HM.out
            refine ⟨⟨j + 1, by omega, by go_num, A8, c8, xs2 ++ [(g3, c3)], L2 ++ [Sector.sec ⟨pe, ps, pf, pb⟩], by rw [List.length_append, hXL2]; rfl, ?_, by rw [List.length_append, hXL2]; simp; omega, ?_, World.ownsRow.kept HP4.out hg8 (own_apart HP4.out HO4.out (by decide))⟩, by simp [intOf]; omega⟩
            · refine Al.snoc (HA4.out) hlen (fun i x hx e => ?_) HO3.out (by rw [hXL2]; exact ho8) hg8
              have := (HA2.out.lt hx).2
              omega
            · intro b hb
              rcases List.mem_append.1 hb with hb | hb
              · exact HSC2.out b hb
              · rw [List.mem_singleton.1 hb]
                exact ⟨⟨pe, ps, pf, pb⟩, HM.out, rfl⟩
          · obtain rfl : j = ys.length := by omega
            go_wp2_with fail
            go_roundw
            case rel => exact ⟨k + 1, by omega, by go_num, Av2, cv2, xs2, L2, rfl, HA2.out, by omega, by omega, HSC2.out⟩
            case measure => simp [intOf]; omega
    · obtain rfl : k = n := by omega
      have hxp : 1 ≤ xs.length := by omega
      have hxm : xs.length ≤ 30 := by omega
      have dxs : ((xs.length : Int) == 0) = false := beq_eq_false_iff_ne.2 (by omega)
      obtain ⟨qi, hqi, hqil⟩ : ∃ qi : Nat, (wh.toNat : Int) % (xs.length : Int) = (qi : Int) ∧ qi < xs.length := ⟨wh.toNat % xs.length, by omega, Nat.mod_lt _ hxp⟩
      have hwh := wh.isLt
      have HQI := Lib.hid hqi
      have e2 : at_.toNat % 4065 % 8 = s := by have h1 := HFE.out; have h2 := HSE.out; omega
      clear hqi
      go_wp2_with fail
      rw [HQI.out, HFE.out, e2, shl_D t s hs3]
      clear e2
      generalize hD : t.setWidth 64 <<< s = D
      have HD := Lib.hid hD
      obtain ⟨⟨gx, cx⟩, hx⟩ : ∃ x, xs[qi]? = some x := ⟨_, List.getElem?_eq_getElem hqil⟩
      obtain ⟨b0, hb0⟩ := HB.out.get hx
      obtain ⟨p0, hp0, hpb⟩ := HSC.out b0 (List.mem_of_getElem? hb0)
      obtain ⟨gA, capA, hvA, hgA, hlA⟩ := HB.out.own.form hxp
      obtain rfl : Av = some ⟨gA, 0, none⟩ := by injection hvA
      have HX := Lib.hid hx
      have HB0 := Lib.hid hb0
      have HP0 := Lib.hid hp0
      have HPB := Lib.hid hpb
      have hquo : (f : Int) / (8 : Int) = (q : Int) := HQE.out
      clear hD hx hb0 hp0 hpb hvA hgA hlA dxs hwh
      go_loopw [18] (fun i wr => ∃ k : Nat, k ≤ 5 ∧ i = .int .i64 (k : Int) ∧ Al w wr (.slice (some ⟨gA, 0, none⟩) xs.length cv) xs (L.set qi (flip b0 q D k))) (fun i _ => 5 - (intOf i).toNat)
      case atStart =>
        refine ⟨0, Nat.zero_le _, rfl, ?_⟩
        rw [flip_zero]
        have : L.set qi b0 = L := by
          apply List.ext_getElem?
          intro j
          by_cases hj : qi = j
          · subst hj
            rw [List.getElem?_set_self (by rw [HB.out.len]; exact hqil), HB0.out]
          · rw [List.getElem?_set_ne hj]
        rw [this]
        exact HB.out
      case round =>
        obtain ⟨j, hj, rfl, hA⟩ := hrel
        have HA := Lib.hid hA
        clear hA
        have hLl : (L.set qi (flip b0 q D j))[qi]? = some (flip b0 q D j) := List.getElem?_set_self (by rw [HB.out.len]; exact hqil)
        obtain ⟨hf5, hrow⟩ := HA.out.wb qi _ _ HX.out hLl
        have HF5 := Lib.hid hf5
        clear hf5
        have hrc : wr.cell? ⟨gA, qi, none⟩ = some (.slice (some ⟨gx, 0, none⟩) 512 cx) := by
          have := World.ownsRow.cells HA.out.own (g := gA) rfl qi _ (by rw [List.getElem?_map, HX.out]; rfl)
          rwa [add_row] at this
        have HLL := Lib.hid hLl
        clear hLl
        by_cases hj5 : j < 5
        · have e5 : decide ((j : Int) < 5) = true := by simp; omega
          by_cases hpk : q + j < 512
          · have epk : decide ((q : Int) + (j : Int) < 512) = true := by simp; omega
            have hcell : wr.cell? ⟨gx, q + j, none⟩ = some (v8 ((flip b0 q D j).getD (q + j) 0#8)) := by
              have := World.ownsRow.cells hrow (g := gx) rfl (q + j) (v8 ((flip b0 q D j).getD (q + j) 0#8)) (by
                rw [List.getElem?_map, List.getElem?_eq_getElem (by rw [HF5.out]; exact hpk), List.getD_eq_getElem?_getD, List.getElem?_eq_getElem (by rw [HF5.out]; exact hpk)]; rfl)
              rwa [add_row] at this
            have hfr : wr.frozen? ⟨gx, q + j, none⟩ = false := World.ownsRow.frozenAt hrow (q + j)
            generalize hX : (flip b0 q D j).getD (q + j) 0#8 = X at hcell
            have HXX := Lib.hid hX
            clear hX hrow
            go_wp2_with fail
            go_region
            all_goals go_wp2_with fail
            all_goals go_roundw
            case rel =>
              refine ⟨j + 1, by omega, by go_num, ?_⟩
              rw [xor_D]
              have h1 := HA.out.set (k := q + j) HX.out HLL.out (X ^^^ (D >>> (8 * j)).setWidth 8)
              rw [List.set_set] at h1
              rw [flip_succ _ _ _ _ (by rw [← flip_len b0 q D j, HF5.out]; exact hpk), HXX.out]
              exact h1.below (Below.refl _ _).drew
            case measure => simp [intOf]; omega
          · have epk : decide ((q : Int) + (j : Int) < 512) = false := by simp; omega
            clear hrow
            go_wp2_with fail
            refine (ends_call _ xs.length cv qi ep _ (flip b0 q D j) wr (Al.rd HA.out rfl) (fun b hb => ?_) (by omega) HLL.out (by rw [HPB.out]; exact get_flip p0 HP0.out t HT.out f q s j HF2.out HQ.out HS.out D HD.out (.inr (by omega)))).mono ?_
            · obtain ⟨i, hi⟩ := List.getElem?_of_mem hb
              have hil : i < xs.length := by rw [← HA.out.len]; exact (List.getElem?_eq_some_iff.1 hi).1
              rw [(HA.out.wb i _ b (List.getElem?_eq_getElem hil) hi).1]
              decide
            rintro r w5 ⟨rfl, hb5⟩
            have h5 := HA.out.low.trans (hb5.mono HA.out.low.size)
            clear hb5
            go_wp2_with fail
            refine (knows _).mono ?_
            rintro r w6 ⟨rfl, hb6⟩
            go_wp2_with fail
            go_ret
            exact ⟨rfl, h5.trans (hb6.mono h5.size)⟩
        · have e5 : decide ((j : Int) < 5) = false := by simp; omega
          clear hrow
          go_wp2_with fail
          refine (ends_call _ xs.length cv qi ep _ (flip b0 q D j) wr (Al.rd HA.out rfl) (fun b hb => ?_) (by omega) HLL.out (by rw [HPB.out]; exact get_flip p0 HP0.out t HT.out f q s j HF2.out HQ.out HS.out D HD.out (.inl (by omega)))).mono ?_
          · obtain ⟨i, hi⟩ := List.getElem?_of_mem hb
            have hil : i < xs.length := by rw [← HA.out.len]; exact (List.getElem?_eq_some_iff.1 hi).1
            rw [(HA.out.wb i _ b (List.getElem?_eq_getElem hil) hi).1]
            decide
          rintro r w5 ⟨rfl, hb5⟩
          have h5 := HA.out.low.trans (hb5.mono HA.out.low.size)
          clear hb5
          go_wp2_with fail
          refine (knows _).mono ?_
          rintro r w6 ⟨rfl, hb6⟩
          go_wp2_with fail
          go_ret
          exact ⟨rfl, h5.trans (hb6.mono h5.size)⟩

theorem turned_walk (A : Option Addr) (n c : Nat) (ep : BitVec 32) (wh : BitVec 8) (at_ : BitVec 16) (t : BitVec 32) (rs : List Frag.Rv) (w : World) (hl : Ri w A n rs) (hm : n ≤ maxLen) :
    Calls Try.prog 4 #[.slice A n c, v32 ep, v8 wh, .int .u16 (at_.toNat : Int), v32 t] w fun r w' => r = .returned (.bool true) ∧ Below w.heap.size w w' := by
  by_cases h : n < 1 ∨ 10 < n ∨ t = 0#32
  · exact turned_know A n c ep wh at_ t w hm h
  · exact turned_yes A n c ep wh at_ t rs w hl (by omega) (by omega) (fun e => h (.inr (.inr e)))
end Go.Proofs.Ytbomgglmplecpaa.Segm
