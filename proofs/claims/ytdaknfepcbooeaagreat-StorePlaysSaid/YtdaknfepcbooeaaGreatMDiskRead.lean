/-
  What bytes.Clone, and the program's Read, come to.
-/
import Derived.Test.YtdaknfepcbooeaaGreatMBase
import Derived.Test.YtdaknfepcbooeaaGreatMDiskC
namespace Go.Proofs.YtdaknfepcbooeaaGreat.Disk
open Go.RowKit Go.Maps
set_option linter.unusedVariables false
set_option linter.unusedSimpArgs false

theorem bytesT : ByteRow Tryz.prog 44 5 := ByteRow.mk' Tryz.underlying44 (by kernel_rfl)
theorem eql_nil (w : World) (A : Option Addr) (n c : Nat) : (binOp .eql 44 (.slice A n c) (.slice none 0 0)).run Tryz.prog w = .ok (.bool A.isNone) w := Lib.run_eql_slice_nil w 44 5 A n c 0 0 Tryz.underlying44
set_option maxRecDepth 100000 in
set_option maxHeartbeats 1000000 in
theorem clone (B : Nat) (A : Option Addr) (n c : Nat) (bs : List (BitVec 8)) (w : World) (h : Bs w B A n bs) (hB : B ≤ w.heap.size) (hn : n ≤ 100000) :
    Calls Tryz.prog 90 #[.slice A n c] w fun r w' => ∃ A' c', r = .returned (.slice A' n c') ∧ By w' A' n bs ∧ Below w.heap.size w w' := by
  have q := eql_nil w A n c
  have H := Lib.hid h
  cases A with
  | none =>
    have hn0 : n = 0 := by
      rcases Nat.eq_zero_or_pos n with h0 | h0
      · exact h0
      · obtain ⟨ad, h', _⟩ := h.2 h0; cases h'
    subst hn0
    clear h
    go_enter Tryz.func90, Tryz.ntmps90
    go_wp2_with fail
    go_ret
    exact ⟨none, 0, rfl, ⟨H.out.1, fun h => absurd h (by omega)⟩, Below.refl _ _⟩
  | some a =>
    clear h
    go_enter Tryz.func90, Tryz.ntmps90
    go_wp2_with ((at_builtin; refine wpList_append_new _ rfl _ _ 44 rfl 5 bytesT rfl B (some a) n c bs rfl H.out hB (by omega) ?_; intro A' c' w' ho hb'))
    go_ret
    exact ⟨A', c', rfl, By.of_own ho, hb'⟩

theorem Cel.range {w : World} {g : Nat} {t : TypeId} {cs : List Value} (h : Cel w g t cs) : w.rangeAt g 0 cs := fun j v hv => by
  rw [Nat.zero_add, h.cell j, hv]
theorem Cel.there {w : World} {g : Nat} {t : TypeId} {cs : List Value} (h : Cel w g t cs) : w.there g 0 cs.length := fun j hj => by
  rw [Nat.zero_add]
  exact ⟨by rw [h.cell j, List.getElem?_eq_getElem hj]; rfl, h.free j⟩
theorem Cel.setCells {w : World} {g : Nat} {t : TypeId} {cs vs : List Value} (h : Cel w g t cs) (hl : vs.length = cs.length) : Cel (w.setCells g 0 vs) g t vs := by
  have key : ∀ (vs cs : List Value) (k : Nat) (pre : List Value) (w : World), pre.length = k → vs.length = cs.length → Cel w g t (pre ++ cs) → Cel (w.setCells g k vs) g t (pre ++ vs) := by
    intro vs
    induction vs with
    | nil => intro cs k pre w hk hl h; cases cs with
      | nil => exact h
      | cons c cs => simp at hl
    | cons v vs ih =>
      intro cs k pre w hk hl h
      cases cs with
      | nil => simp at hl
      | cons c cs =>
        rw [World.setCells]
        have h1 := h.set k v
        rw [List.set_append_right _ _ (by omega), hk, Nat.sub_self, List.set_cons_zero] at h1
        have := ih cs (k + 1) (pre ++ [v]) _ (by simp [hk]) (by simpa using hl) (by simpa using h1)
        simpa using this
  simpa using key vs cs 0 [] w rfl hl (by simpa using h)
theorem Below.setCells {B : Nat} {w0 w : World} (h : Below B w0 w) {g : Nat} (hg : B ≤ g) : ∀ (vs : List Value) (o : Nat), Below B w0 (w.setCells g o vs) := by
  intro vs
  induction vs generalizing w with
  | nil => intro o; exact h
  | cons v vs ih => intro o; rw [World.setCells]; exact ih (h.setCell hg v) _

/-- Rows of bytes, in a row of the call's own. -/
def Rs (w : World) (B : Nat) (v : Value) (xs : List (List (BitVec 8))) : Prop :=
  ∃ us : List Value, w.ownsRow B 44 1 v xs.length us ∧ us.length = xs.length ∧ ∀ (i : Nat) x, xs[i]? = some x → ∃ A c, us[i]? = some (.slice A x.length c) ∧ By w A x.length x
theorem Rs.nil_ (w : World) (B : Nat) : Rs w B (.slice none 0 0) [] := ⟨[], World.ownsRow_nil _ _ _ _, rfl, by simp⟩
theorem Rs.below {w w' : World} {B : Nat} {v : Value} {xs : List (List (BitVec 8))} (h : Rs w B v xs) (hb : Below w.heap.size w w') : Rs w' B v xs := by
  obtain ⟨us, h1, h2, h3⟩ := h
  refine ⟨us, own_chg (T := fun _ => False) (B := 0) h1 ((Chg.of_below hb)) (fun _ h => h), h2, fun i x hx => ?_⟩
  obtain ⟨A, c, e, hy⟩ := h3 i x hx
  exact ⟨A, c, e, hy.below hb⟩
theorem Rs.pushed {w w' : World} {B : Nat} {v v' : Value} {xs : List (List (BitVec 8))} {us : List Value} {x : List (BitVec 8)} {A : Option Addr} {c : Nat} (h1 : w.ownsRow B 44 1 v xs.length us) (h2 : us.length = xs.length)
    (h3 : ∀ (i : Nat) x, xs[i]? = some x → ∃ A c, us[i]? = some (.slice A x.length c) ∧ By w A x.length x) (hx : By w A x.length x) (ho : w'.ownsRow B 44 1 v' (xs.length + 1) (us ++ [.slice A x.length c])) (hg : w.grownBy w' v.ownBlock) : Rs w' B v' (xs ++ [x]) := by
  have hk : ∀ A n bs, By w A n bs → By w' A n bs := fun A n bs hy => hy.grown hg (not_bytes h1 (by decide))
  refine ⟨us ++ [.slice A x.length c], by rw [List.length_append]; exact ho, by simp [h2], fun i y hy => ?_⟩
  by_cases hi : i < xs.length
  · rw [List.getElem?_append_left hi] at hy
    obtain ⟨A', c', e, hy'⟩ := h3 i y hy
    exact ⟨A', c', by rw [List.getElem?_append_left (by omega)]; exact e, hk _ _ _ hy'⟩
  · rw [List.getElem?_append_right (by omega)] at hy
    have hi0 : i - xs.length = 0 := by
      rcases Nat.eq_zero_or_pos (i - xs.length) with h | h
      · exact h
      · rw [List.getElem?_eq_none (by simp; omega)] at hy; cases hy
    rw [hi0] at hy
    simp at hy
    subst hy
    exact ⟨A, c, by rw [List.getElem?_append_right (by omega), h2, hi0]; rfl, hk _ _ _ hx⟩

theorem infoBytes : (Tryz.prog.info? 44).map (fun i => (i.zero, i.size, i.bytes)) = some (some (.slice none 0 0), 1, 24) := by kernel_rfl
theorem undRows : Tryz.prog.underlying 30 = some (.slice 44) := by kernel_rfl
theorem infoB2 : (Tryz.prog.info? 126).map (fun i => (i.zero, i.size)) = some (some (.agg (List.replicate 512 (v8 0#8) ++ [Value.bool false]).toArray), 513) := by kernel_rfl

set_option maxRecDepth 100000 in
set_option maxHeartbeats 1000000 in
theorem read_not (w : World) (B d : Nat) (m : M) (f : Int) (hf : -9223372036854775808 ≤ f ∧ f < 9223372036854775808) (h : Dk w B d m) (ht : there m f ≠ 0) :
    Calls Tryz.prog 56 #[.pointer (some ⟨d, 0, none⟩), .int .i64 f] w fun r w' => r = .returned (.tuple #[.slice none 0 0, .int .i64 (there m f)]) ∧ w = w' := by
  obtain ⟨b, vs, kv, h⟩ := h
  have con := find_ok w B d b m vs kv f hf h
  obtain ⟨x, hx⟩ : ∃ x, x = there m f := ⟨_, rfl⟩
  rw [← hx] at ht con ⊢
  have q1 : (x == 0) = false := by simpa using ht
  have q2 : (x != 0) = true := by simpa using ht
  clear hf h hx ht
  go_enter Tryz.func56, Tryz.ntmps56
  go_wp2_with (first | (go_at_call 89; refine con.mono ?_; rintro e w' ⟨rfl, rfl⟩))
  go_ret2
  exact ⟨rfl, rfl⟩

set_option maxRecDepth 100000 in
set_option maxHeartbeats 2000000 in
theorem read_ok (w : World) (B d : Nat) (m : M) (f : Int) (hf : -9223372036854775808 ≤ f ∧ f < 9223372036854775808) (h : Dk w B d m) (ht : there m f = 0) :
    Calls Tryz.prog 56 #[.pointer (some ⟨d, 0, none⟩), .int .i64 f] w fun r w' => ∃ v, r = .returned (.tuple #[v, .int .i64 0]) ∧ Rs w' w.heap.size v ((rows f m.l).map Sc.b) ∧ Below w.heap.size w w' := by
  obtain ⟨b, vs, kv, h⟩ := h
  have con := find_ok w B d b m vs kv f hf h
  rw [ht] at con
  have hfm := there_here ht
  obtain ⟨j0, j1, j2, j3, j4⟩ := Cel.at0 h.cel
  have hlook := h.map.look hf
  rw [show lookV m.files vs f = vs f from if_pos hfm] at hlook
  obtain ⟨xs, hxs⟩ : ∃ xs, xs = rows f m.l := ⟨_, rfl⟩
  have hR : Rw w B (vs f) xs := by rw [hxs]; exact h.rows f hfm
  have hX : xs.length ≤ 1000 := by rw [hxs]; exact h.inv.rows_le f
  have hXF : Full xs := by rw [hxs]; exact h.inv.r512 f
  have hX0 : 0 < xs.length := by rw [hxs]; exact h.inv.pos hfm
  obtain ⟨g, cap, hv, hgB, hgl⟩ : ∃ g cap, vs f = .slice (some ⟨g, 0, none⟩) xs.length cap ∧ B ≤ g ∧ g < w.heap.size := by
    rcases hR.cases with ⟨_, e⟩ | ⟨g, cap, e, h1, h2, _⟩
    · rw [e] at hX0; simp at hX0
    · exact ⟨g, cap, e, h1, h2⟩
  rw [hv] at hlook hR
  rw [← hxs]
  obtain ⟨hz, hsz⟩ := zero_of_info infoB2
  obtain ⟨zl, hZ⟩ : ∃ zl : List Value, zl = List.replicate 512 (v8 0#8) ++ [Value.bool false] := ⟨_, rfl⟩
  rw [← hZ] at hz
  have hzl : zl.length = 513 := by rw [hZ, List.length_append, List.length_replicate]; rfl
  have HZ := Lib.hid hZ
  have HZL := Lib.hid hzl
  have HSZ := Lib.hid hsz
  have HR := Lib.hid hR
  have HXF := Lib.hid hXF
  clear hZ hzl hsz hR hXF hv hxs h hfm hf j0 j1 j3 j4 ht hgB
  go_enter Tryz.func56, Tryz.ntmps56
  go_wp2_with (first | (go_at_call 89; refine con.mono ?_; rintro e w' ⟨rfl, rfl⟩))
  clear con
  go_loopw [7, 23] (fun l i wr => ∃ k : Nat, k ≤ xs.length ∧ i = .int .i64 k ∧ Rs wr w.heap.size l ((xs.take k).map Sc.b) ∧ Below w.heap.size w wr)
    (fun _ i _ => xs.length - (Go.RowKit.intOf i).toNat)
  case atStart => exact ⟨0, Nat.zero_le _, rfl, Rs.nil_ _ _, Below.refl _ _⟩
  case round =>
    obtain ⟨k, hk, rfl, hRs, hbw⟩ := hrel
    have HB := Lib.hid hbw
    by_cases hlt : k < xs.length
    · obtain ⟨us, hu1, hu2, hu3⟩ := hRs
      have hR1 : Rw wr B (.slice (some ⟨g, 0, none⟩) xs.length cap) xs := own_chg HR.out (T := fun _ => False) (B := 0) (Chg.of_below HB.out) (fun _ h => h)
      have HU1 := Lib.hid hu1
      have HU2 := Lib.hid hu2
      have HU3 := Lib.hid hu3
      have HR1 := Lib.hid hR1
      clear hu1 hu2 hu3 hR1 hbw
      have hsz1 : w.heap.size ≤ wr.heap.size := HB.out.size
      obtain ⟨x, hx⟩ : ∃ x, xs[k]? = some x := ⟨_, List.getElem?_eq_getElem hlt⟩
      have hx5 : x.b.length = 512 := HXF.out x (List.mem_of_getElem? hx)
      obtain ⟨cs, hcs⟩ : ∃ cs, cs = x.cells := ⟨_, rfl⟩
      have hcl : cs.length = 513 := by rw [hcs]; exact Sc.cells_len hx5
      have hrg : wr.rangeAt g (k * 513) cs := fun j u hu => by
        have hj : j < 513 := by rw [← hcl]; exact (List.getElem?_eq_some_iff.1 hu).1
        have h1 := cellsOf_at HXF.out hx hj
        rw [← hcs, hu] at h1
        have := World.ownsRow.cells HR1.out (g := g) rfl _ _ h1
        rwa [Addr.add_lit, Nat.zero_add] at this
      have hone : cs.toArray.all (·.oneCell') = true := all_oneCell_toArray (by rw [hcs]; exact cells_one x)
      have hnew := Cel.new wr 126 zl
      have HCS := Lib.hid hcs
      have HCL := Lib.hid hcl
      have HRG := Lib.hid hrg
      have HON := Lib.hid hone
      have HX := Lib.hid hx
      have HX5 := Lib.hid hx5
      have HNW := Lib.hid hnew
      have hst : (storeCells { block := wr.heap.size, off := 0 } cs).run Tryz.prog (wr.alloc (.cells zl.toArray 126)) = .ok () ((wr.alloc (.cells zl.toArray 126)).setCells wr.heap.size 0 cs) := by
        have ht := Cel.there hnew
        rw [HZL.out] at ht
        have := run_storeCells_cells (P := Tryz.prog) wr.heap.size 0 cs 0 (wr.alloc (.cells zl.toArray 126)) (fun j hj => by simpa using (ht j (by omega)).1) (fun j hj => by have := (ht j (by omega)).2; simp) (fun v hv => by rw [hcs] at hv; exact cells_one x v hv)
        simpa using this
      clear hx hx5 hcs hrg hone hnew
      go_wp2_with (first
        | (refine wpList_load_mid rfl 126 (.tmp 25) rfl g (k * 513) rfl cs _ HRG.out Tryz.underlying126 rfl (by rw [HCL.out]; exact HSZ.out) ?_))
      have hW1 : Cel ((wr.alloc (.cells zl.toArray 126)).setCells wr.heap.size 0 cs) wr.heap.size 126 cs := Cel.setCells HNW.out (by rw [HCL.out, HZL.out])
      have hB1 : Below wr.heap.size wr ((wr.alloc (.cells zl.toArray 126)).setCells wr.heap.size 0 cs) := Below.setCells ((Below.refl _ _).alloc (Nat.le_refl _) _) (Nat.le_refl _) _ _
      have hbs : Bs ((wr.alloc (.cells zl.toArray 126)).setCells wr.heap.size 0 cs) (wr.heap.size + 1) (some ⟨wr.heap.size, 0, none⟩) 512 x.b := by
        refine ⟨HX5.out, fun _ => ⟨_, rfl, by simp, fun j hj => ?_⟩⟩
        rw [Addr.add_lit, Nat.zero_add, hW1.cell j, HCS.out]
        unfold Sc.cells
        rw [List.getElem?_append_left (by rw [List.length_map, HX5.out]; exact hj), List.getElem?_map, List.getElem?_eq_getElem (by rw [HX5.out]; exact hj), List.getD_eq_getElem?_getD, List.getElem?_eq_getElem (by rw [HX5.out]; exact hj)]
        rfl
      clear hst
      generalize (wr.alloc (.cells zl.toArray 126)).setCells wr.heap.size 0 cs = W1 at *
      have hsW : wr.heap.size + 1 ≤ W1.heap.size := hW1.lt
      have con := clone (wr.heap.size + 1) (some ⟨wr.heap.size, 0, none⟩) 512 512 x.b W1 hbs hsW (by omega)
      have HB1 := Lib.hid hB1
      clear hW1 hB1 hbs
      refine con.mono ?_
      clear con
      rintro e w2 ⟨A2, c2, rfl, hy2, hb2⟩
      have hb2' := HB1.out.trans (hb2.mono (by omega))
      have HY2 := Lib.hid hy2
      have HB2 := Lib.hid hb2'
      clear hy2 hb2 hb2'
      have hBw2 : Below w.heap.size w w2 := HB.out.trans (HB2.out.mono hsz1)
      have hpre : Below wr.heap.size wr (w2.alloc (.cells #[.slice A2 512 c2] 44)) := HB2.out.alloc HB2.out.size _
      have hown2 := own_chg (w' := w2.alloc (.cells #[.slice A2 512 c2] 44)) HU1.out (T := fun _ => False) (B := 0) (Chg.of_below hpre) (fun _ h => h)
      have hnews : ∀ j u, [Value.slice A2 512 c2][j]? = some u → (w2.alloc (.cells #[.slice A2 512 c2] 44)).cell? ((⟨w2.heap.size, 0, none⟩ : Addr).add j) = some u := fun j u hu => by
        rw [Addr.add_lit, Nat.zero_add, (Cel.new w2 44 [Value.slice A2 512 c2]).cell j, hu]
      obtain ⟨i0, hi0, hz0, hz1, hz2⟩ := info_parts infoBytes
      have hlk : ((xs.take k).map Sc.b).length = k := by rw [List.length_map, List.length_take]; omega
      have h63 : ((xs.take k).map Sc.b).length + 1 ≤ maxLen := by rw [hlk]; unfold maxLen; omega
      have h47 : (((xs.take k).map Sc.b).length + 1) * 24 ≤ 140737488355328 := by rw [hlk]; omega
      have hbase : w.heap.size ≤ (w2.alloc (.cells #[.slice A2 512 c2] 44)).heap.size := by have := hpre.size; omega
      have HOW := Lib.hid hown2
      have HNE := Lib.hid hnews
      have HI0 := Lib.hid hi0
      have HZ0 := Lib.hid hz0
      have HZ1 := Lib.hid hz1
      have HZ2 := Lib.hid hz2
      have HLK := Lib.hid hlk
      have H63 := Lib.hid h63
      have H47 := Lib.hid h47
      have HPR := Lib.hid hpre
      have HBW2 := Lib.hid hBw2
      have HBA := Lib.hid hbase
      clear hown2 hnews hi0 hz0 hz1 hz2 hlk h63 h47 hpre hBw2 hbase
      go_wp2_with ((at_builtin; refine wpList_append_own_at _ rfl _ _ 30 rfl w.heap.size 44 i0 _ 1 24 undRows HI0.out HZ0.out HZ1.out HZ2.out rfl (by decide) _ _ us rfl HOW.out ⟨w2.heap.size, 0, none⟩ 1 1 [Value.slice A2 512 c2] rfl rfl HNE.out (by simp [Value.oneCell']) H63.out H47.out HBA.out ?_; intro v' w3 h3 h4 _ _; have H3 := Lib.hid h3; have H4 := Lib.hid h4; clear h3 h4))
      have ht : (xs.take (k + 1)).map Sc.b = (xs.take k).map Sc.b ++ [x.b] := by
        obtain ⟨hk2, e⟩ := List.getElem?_eq_some_iff.1 HX.out
        rw [List.take_succ_eq_append_getElem hk2, List.map_append, e]
        rfl
      have hy : ∀ (i : Nat) y, ((xs.take k).map Sc.b)[i]? = some y → ∃ A c, us[i]? = some (.slice A y.length c) ∧ By (w2.alloc (.cells #[.slice A2 512 c2] 44)) A y.length y := fun i y hy => by
        obtain ⟨A, c, e, hb⟩ := HU3.out i y hy
        exact ⟨A, c, e, hb.below HPR.out⟩
      have hrs : Rs w3 w.heap.size v' ((xs.take (k + 1)).map Sc.b) := by
        rw [ht]
        exact Rs.pushed (c := c2) HOW.out HU2.out hy (by rw [HX5.out]; exact HY2.out.alloc _) (by rw [HX5.out]; exact H3.out) H4.out
      go_roundw
      case rel => exact ⟨k + 1, by omega, by go_num, hrs, (HBW2.out.alloc HBW2.out.size _).grown H4.out HBA.out (fun j hj => (World.ownsRow.lt HOW.out j hj).1)⟩
      case measure => simp [Go.RowKit.intOf]; omega
    · obtain rfl : k = xs.length := by omega
      have HRs := Lib.hid hRs
      clear hRs hbw hk
      go_wp2_with fail
      go_ret2
      exact ⟨_, rfl, by have := HRs.out; rwa [List.take_length] at this, HB.out⟩
end Go.Proofs.YtdaknfepcbooeaaGreat.Disk
