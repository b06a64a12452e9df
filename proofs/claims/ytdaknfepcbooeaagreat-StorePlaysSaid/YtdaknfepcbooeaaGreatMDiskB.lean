/-
  What a power failure (lose) makes of the program's disk.
  The step that counts (step), whatever is handed to it.
-/
import Derived.Test.YtdaknfepcbooeaaGreatMDiskOps
section
namespace Go.Proofs.YtdaknfepcbooeaaGreat.Disk
open Go.RowKit Go.Maps
set_option linter.unusedVariables false
set_option linter.unusedSimpArgs false

/-- Cells from place o on are replaced by these. -/
def setL : List Value → Nat → List Value → List Value
  | xs, _, [] => xs
  | xs, o, u :: us => setL (xs.set o u) (o + 1) us
theorem setL_mid (p q r us : List Value) (h : us.length = q.length) : setL (p ++ q ++ r) p.length us = p ++ us ++ r := by
  induction us generalizing p q with
  | nil => cases q with
    | nil => rfl
    | cons a q => simp at h
  | cons u us ih =>
    cases q with
    | nil => simp at h
    | cons a q =>
      have e : (p ++ a :: q ++ r).set p.length u = (p ++ [u]) ++ q ++ r := by simp
      have := ih (p ++ [u]) q (by simpa using h)
      rw [setL, e, show p.length + 1 = (p ++ [u]).length by simp, this]
      simp
theorem own_setCells {base e size n g cap : Nat} {w : World} {xs : List Value} (h : w.ownsRow base e size (.slice (some ⟨g, 0, none⟩) n cap) n xs) (us : List Value) (o : Nat) :
    (w.setCells g o us).ownsRow base e size (.slice (some ⟨g, 0, none⟩) n cap) n (setL xs o us) ∧ w.grownBy (w.setCells g o us) (some g) := by
  induction us generalizing w xs o with
  | nil => exact ⟨h, ⟨rfl, rfl, rfl, Nat.le_refl _, fun _ _ _ => rfl⟩⟩
  | cons u us ih =>
    obtain ⟨h1, h2⟩ := h.stored o u
    obtain ⟨h3, h4⟩ := ih h1 (o + 1)
    exact ⟨h3, h2.andThen h4 (fun j hj => .inr hj)⟩
theorem cellsOf_split {xs : List Sc} {j : Nat} {x : Sc} (hx : xs[j]? = some x) : cellsOf xs = cellsOf (xs.take j) ++ x.b.map v8 ++ ([.bool x.s] ++ cellsOf (xs.drop (j + 1))) := by
  obtain ⟨hj, rfl⟩ := List.getElem?_eq_some_iff.1 hx
  conv => lhs; rw [← List.take_append_drop j xs, List.drop_eq_getElem_cons hj, cellsOf_app, cellsOf_cons]
  simp [Sc.cells]
theorem setL_zeros {xs : List Sc} (hF : Full xs) {j : Nat} {x : Sc} (hx : xs[j]? = some x) (s : Bool) (hs : x.s = s) : setL (cellsOf xs) (j * 513) (zeros.map v8) = cellsOf (xs.set j ⟨zeros, s⟩) := by
  obtain ⟨hj, rfl⟩ := List.getElem?_eq_some_iff.1 hx
  have hl : (cellsOf (xs.take j)).length = j * 513 := by
    rw [cellsOf_len (full_take hF j), List.length_take, Nat.min_eq_left (Nat.le_of_lt hj)]
  have h5 := hF _ (List.getElem_mem hj)
  rw [cellsOf_split hx, ← hl, setL_mid _ _ _ _ (by rw [List.length_map, List.length_map, zeros_len, h5])]
  have hx2 : (xs.set j ⟨zeros, s⟩)[j]? = some ⟨zeros, s⟩ := by simp [hj]
  rw [cellsOf_split hx2, hs, List.take_set_of_le (Nat.le_refl _), List.drop_set_of_lt (Nat.lt_succ_self _)]
theorem Rw.zeroAt {w : World} {B g cap : Nat} {xs : List Sc} (h : Rw w B (.slice (some ⟨g, 0, none⟩) xs.length cap) xs) (hF : Full xs) {i : Nat} {x : Sc} (hx : xs[i]? = some x) (s : Bool) (hs : x.s = s) :
    Rw (w.setCells g (i * 513) (zeros.map v8)) B (.slice (some ⟨g, 0, none⟩) xs.length cap) (xs.set i ⟨zeros, s⟩) ∧ w.grownBy (w.setCells g (i * 513) (zeros.map v8)) (some g) := by
  obtain ⟨h1, h2⟩ := own_setCells h (zeros.map v8) (i * 513)
  rw [setL_zeros hF hx s hs] at h1
  refine ⟨?_, h2⟩
  unfold Rw
  rw [List.length_set]
  exact h1

/-- The disk when its first k files are through. -/
def lostK (m : M) (ks : List Bool) (k : Nat) : M := { m with l := (passes ks (m.files.take k) m.l).2 }
theorem Inv.lostK {m : M} (h : Inv m) (ks : List Bool) (k : Nat) : Inv (lostK m ks k) := by
  have hf := foldl_file ks (m.files.take k) (0, m.l)
  refine ⟨h.sorted, fun f => (h.here f).trans ?_, foldl_512 ks (m.files.take k) (0, m.l) h.len, ?_, h.room, h.fit, h.plan⟩
  · have e : ∀ l : List Cl, (∃ c ∈ l, c.file = f) ↔ f ∈ l.map (·.file) := fun l => by simp
    rw [e, e]
    show f ∈ m.l.map (·.file) ↔ f ∈ ((m.files.take k).foldl (pstep ks) (0, m.l)).2.map (·.file)
    rw [hf]
  · show (passes ks (m.files.take k) m.l).2.length ≤ m.room
    rw [(passes_bound ks (m.files.take k) m.l).2]; exact h.most
theorem lostK_zero (m : M) (ks : List Bool) : lostK m ks 0 = m := rfl
theorem lostK_end (m : M) (ks : List Bool) : ({ lostK m ks m.files.length with off := true, plan := none } : M) = lost m ks := by
  unfold lostK lost
  rw [List.take_length]

/-- Blocks of the disk's that a row lies in. -/
theorem Rw.chg {w w' : World} {B : Nat} {v : Value} {xs : List Sc} (h : Rw w B v xs) (hg : w.grownBy w' v.ownBlock) : Chg B Dob w w' := by
  refine (Chg.refl B Dob w).grown hg fun g e => ?_
  rcases h.cases with ⟨rfl, _⟩ | ⟨g', cap, rfl, hB, _, cur, ho⟩
  · cases e
  · cases e
    exact .inr ⟨hB, _, ho, .inr rfl⟩
/-- One row was written. -/
theorem Dv.row {w w' : World} {B d b : Nat} {m m' : M} {vs : Int → Value} {kv : Value} (h : Dv w B d m b vs kv) {f : Int} (hf : f ∈ m.files) (hg : w.grownBy w' (vs f).ownBlock) (hr : Rw w' B (vs f) (Disk.rows f m'.l))
    (ho : ∀ g, g ≠ f → Disk.rows g m'.l = Disk.rows g m.l) (hi : Inv m') (e1 : m'.room = m.room) (e2 : m'.files = m.files) (e3 : m'.off = m.off) (e4 : m'.plan = m.plan) : Dv w' B d m' b vs kv := by
  have hc := (h.rows f hf).chg hg
  have hrow := (h.rows f hf).cases
  have hne : ∀ k o, w.heap[k]? = some o → (∀ cur, o ≠ Obj.cells cur 126 (0, 0)) → w'.heap[k]? = some o := fun k o hk hn => by
    have hk' := (Array.getElem?_eq_some_iff.1 hk).1
    rw [hg.block k hk' (fun e => ?_), hk]
    rcases hrow with ⟨e0, _⟩ | ⟨g', cap, e0, _, _, cur, hb⟩
    · rw [e0] at e; cases e
    · rw [e0] at e; cases e
      rw [hk] at hb; cases hb
      exact hn _ rfl
  refine ⟨hi, ?_, h.own, ?_, fun g hm => ?_, fun g hm g' hm' => h.apart g (e2 ▸ hm) g' (e2 ▸ hm'), ?_⟩
  · rw [e1, e3, e4]
    exact hne _ _ h.cel (by intro cur e; simp at e)
  · rw [e2]
    obtain ⟨es, clock, hb, r⟩ := h.map
    exact ⟨es, clock, hne _ _ hb (by intro cur e; cases e), r⟩
  · rw [e2] at hm
    by_cases e : g = f
    · subst e; exact hr
    · rw [ho g e]
      exact World.ownsRow.kept (h.rows g hm) hg (by
        cases hv : (vs g).ownBlock with
        | none => exact .inl rfl
        | some k => exact .inr fun e' => h.apart g hm f hf e k hv e'.symm)
  · rw [e1, e4]
    exact fun k ks e => (h.keep k ks e).chg hc (by rintro cs fz (h | h) <;> revert h <;> decide)

theorem zeroA : (Tryz.prog.info? 124).map (fun i => (i.zero, i.size)) = some (some (.agg (List.replicate 512 (v8 0#8)).toArray), 512) := by kernel_rfl

/-- What a row has become behind its first j sectors. -/
def mid (ks : List Bool) (n : Nat) (xs : List Sc) (j : Nat) : List Sc := rowZ ks n (xs.take j) ++ xs.drop j
theorem mid_at {ks : List Bool} {n j : Nat} {xs : List Sc} (x : Sc) (h : xs[j]? = some x) : (mid ks n xs j)[j]? = some x := by
  have hj := (List.getElem?_eq_some_iff.1 h).1
  have hl : (rowZ ks n (xs.take j)).length = j := by rw [rowZ_len, List.length_take]; omega
  unfold mid
  rw [List.getElem?_append_right (by omega), hl, Nat.sub_self, List.getElem?_drop]
  exact h
theorem mid_len {ks : List Bool} {n j : Nat} {xs : List Sc} : (mid ks n xs j).length = xs.length := by
  unfold mid
  rw [List.length_append, rowZ_len, List.length_take, List.length_drop]
  omega
theorem mid_full {ks : List Bool} {n : Nat} {xs : List Sc} (h : Full xs) (j : Nat) : Full (mid ks n xs j) :=
  full_app (rowZ_512 ks n _ (full_take h j)) (full_drop h j)
theorem mid_set {ks : List Bool} {n j : Nat} {xs : List Sc} {x : Sc} (h : xs[j]? = some x) (y : Sc) (hy : rowZ ks (n + uns (xs.take j)) [x] = [y]) : (mid ks n xs j).set j y = mid ks n xs (j + 1) := by
  obtain ⟨hj, rfl⟩ := List.getElem?_eq_some_iff.1 h
  have hl : (rowZ ks n (xs.take j)).length = j := by rw [rowZ_len, List.length_take]; omega
  unfold mid
  rw [List.set_append_right _ _ (by omega), hl, Nat.sub_self, List.drop_eq_getElem_cons hj, List.set_cons_zero, List.take_succ_eq_append_getElem hj, rowZ_app, hy, List.append_assoc]
  rfl
theorem mid_same {ks : List Bool} {n j : Nat} {xs : List Sc} {x : Sc} (h : xs[j]? = some x) (hy : rowZ ks (n + uns (xs.take j)) [x] = [x]) : mid ks n xs j = mid ks n xs (j + 1) := by
  rw [← mid_set h x hy]
  refine List.ext_getElem? fun i => ?_
  rw [List.getElem?_set]
  have h2 := mid_at (ks := ks) (n := n) x h
  split
  · rename_i e
    subst e
    rw [if_pos (List.getElem?_eq_some_iff.1 h2).1, h2]
  · rfl
theorem uns_take {j : Nat} {xs : List Sc} {x : Sc} (h : xs[j]? = some x) : uns (xs.take (j + 1)) = uns (xs.take j) + if x.s then 0 else 1 := by
  obtain ⟨hj, rfl⟩ := List.getElem?_eq_some_iff.1 h
  rw [List.take_succ_eq_append_getElem hj, uns_app]
  rfl
theorem rowZ_zero {ks : List Bool} {n : Nat} {x : Sc} (hs : x.s = false) (hk : ks.getD n false = false) : rowZ ks n [x] = [⟨zeros, false⟩] := by rw [rowZ_cons, hs, hk]; rfl
theorem rowZ_kept {ks : List Bool} {n : Nat} {x : Sc} (hs : x.s = false) (hk : ks.getD n false = true) : rowZ ks n [x] = [x] := by
  obtain ⟨b, s⟩ := x
  cases hs
  rw [rowZ_cons, hk]
  rfl
theorem rowZ_synced {ks : List Bool} {n : Nat} {x : Sc} (hs : x.s = true) : rowZ ks n [x] = [x] := by rw [rowZ_cons, hs]; rfl
theorem grown_setCell (w : World) (p : Addr) (u : Value) : w.grownBy (w.setCell p u) (some p.block) :=
  ⟨rfl, rfl, rfl, by simp [World.setCell], fun k _ hk => Below.heap_setCell _ _ _ _ (fun e => hk (by rw [e]))⟩
/-- The disk's own cells were written. -/
theorem Dv.head {w w' : World} {B d b : Nat} {m : M} {vs : Int → Value} {kv : Value} (h : Dv w B d m b vs kv) (hg : w.grownBy w' (some d)) (off' : Bool) (plan' : Option (Nat × List Bool)) (kv' : Value)
    (hc : Cel w' d 65 [.int .i64 m.room, .bool (!off'), .map (some b), .int .i64 (leftOf plan'), kv']) (hp : ∀ k ks, plan' = some (k, ks) → k < 9223372036854775808)
    (hk : ∀ k ks, plan' = some (k, ks) → Bo w' B kv' (ks.take m.room)) : Dv w' B d { m with off := off', plan := plan' } b vs kv' ∧ Chg B Dob w w' := by
  have hch : Chg B Dob w w' := (Chg.refl B Dob w).grown hg fun g e => by cases e; exact .inr ⟨h.own.1, _, h.cel, .inl rfl⟩
  refine ⟨⟨⟨h.inv.sorted, h.inv.here, h.inv.len, h.inv.most, h.inv.room, h.inv.fit, hp⟩, hc, h.own, ?_, fun f hf => ?_, h.apart, hk⟩, hch⟩
  · obtain ⟨es, clock, hb, r⟩ := h.map
    refine ⟨es, clock, ?_, r⟩
    rw [hg.block b (Array.getElem?_eq_some_iff.1 hb).1 (fun e => by cases e; have := h.cel; unfold Cel at this; rw [hb] at this; cases this), hb]
  · refine World.ownsRow.kept (h.rows f hf) hg ?_
    rcases (h.rows f hf).cases with ⟨e, _⟩ | ⟨g, cap, e, _, _, cur, hb⟩
    · rw [e]; exact .inl rfl
    · rw [e]
      refine .inr fun e' => ?_
      cases e'
      have := h.cel
      unfold Cel at this
      rw [hb] at this
      simp at this
theorem lostK_succ {m : M} {ks : List Bool} {k : Nat} {f : Int} (h : m.files[k]? = some f) : (lostK m ks (k + 1)).l = pass ks f (passes ks (m.files.take k) m.l).1 (lostK m ks k).l ∧ (passes ks (m.files.take (k + 1)) m.l).1 = (passes ks (m.files.take k) m.l).1 + uns (rows f (lostK m ks k).l) := by
  have := passes_snoc ks m.files k m.l f h
  unfold lostK
  rw [this]
  exact ⟨rfl, rfl⟩

set_option maxRecDepth 100000 in
set_option maxHeartbeats 2000000 in
theorem lose_ok (w : World) (B d b : Nat) (m : M) (vs : Int → Value) (kv keepV : Value) (ks : List Bool) (h : Dv w B d m b vs kv) (hk : Bo w B keepV ks) (hB : B ≤ w.heap.size) (hks : ks.length ≤ maxLen) :
    Calls Tryz.prog 48 #[.pointer (some ⟨d, 0, none⟩), keepV] w fun e w' => e = .returned (.tuple #[]) ∧ Dv w' B d (lost m ks) b vs (.slice none 0 0) ∧ Chg B Dob w w' := by
  obtain ⟨hz, hsz⟩ := zero_of_info zeroA
  obtain ⟨zl, hZ⟩ : ∃ zl : List Value, zl = List.replicate 512 (v8 0#8) := ⟨_, rfl⟩
  rw [← hZ] at hz
  have HZ := Lib.hid hZ
  have hzl : zl.length = 512 := by rw [hZ]; exact List.length_replicate ..
  have HZL := Lib.hid hzl
  clear hzl
  obtain ⟨kA, kc, rfl, hkc, hkn⟩ := id hk
  obtain ⟨k0, k1, k2, k3, k4⟩ := Cel.at0 h.cel
  have cF := files_call w d b m.files vs k2 h.map h.inv.sorted h.inv.few
  have H := Lib.hid h
  have HK := Lib.hid hk
  have HKN := Lib.hid hkn
  have HB := Lib.hid hB
  unfold maxLen at hks
  clear h hk hZ hsz k0 k1 k2 k3 k4 hkc hkn hB
  go_enter Tryz.func48, Tryz.ntmps48
  go_wp2_with fail
  refine cF.mono ?_
  clear cF
  rintro e wf ⟨A, c, rfl, hown, hbf⟩
  have HO := Lib.hid hown
  have HF := Lib.hid hbf
  clear hown hbf
  go_wp2_with fail
  go_loopw [4, 12] (fun n i wr => ∃ k : Nat, k ≤ m.files.length ∧ i = .int .i64 k ∧ n = .int .i64 ((passes ks (m.files.take k) m.l).1 : Nat) ∧ Dv wr B d (lostK m ks k) b vs kv ∧ Chg B Dob wf wr)
    (fun _ i _ => m.files.length - (Go.RowKit.intOf i).toNat)
  case atStart => exact ⟨0, Nat.zero_le _, rfl, rfl, by rw [lostK_zero]; exact H.out.below HF.out, Chg.refl _ _ _⟩
  case round =>
    obtain ⟨k, hk, rfl, rfl, hd, hch⟩ := hrel
    have HD := Lib.hid hd
    have HC := Lib.hid hch
    clear hd hch
    by_cases hlt : k < m.files.length
    · obtain ⟨f, hf⟩ : ∃ f, m.files[k]? = some f := ⟨_, List.getElem?_eq_getElem hlt⟩
      have hfm : f ∈ m.files := List.mem_of_getElem? hf
      have hfit := H.out.inv.fit f hfm
      obtain ⟨A0, e1, e2⟩ : ∃ g0, A = some ⟨g0, 0, none⟩ ∧ wf.ownsRow w.heap.size 3 1 (.slice (some ⟨g0, 0, none⟩) m.files.length c) m.files.length (m.files.map (Value.int .i64)) := by
        have ho := HO.out
        rcases ho.2 with ⟨e, h0⟩ | ⟨g, cap, cur, e, _⟩
        · omega
        · cases e; exact ⟨g, rfl, ho⟩
      subst e1
      have ho2 : wr.ownsRow w.heap.size 3 1 (.slice (some ⟨A0, 0, none⟩) m.files.length c) m.files.length (m.files.map (Value.int .i64)) := own_chg e2 HC.out (by rintro cur (h | h) <;> revert h <;> decide)
      have hcf : wr.cell? ⟨A0, k, none⟩ = some (.int .i64 f) := by
        have := World.ownsRow.cells ho2 (g := A0) rfl k (.int .i64 f) (by rw [List.getElem?_map, hf]; rfl)
        rwa [Addr.add_lit, Nat.zero_add] at this
      obtain ⟨j0, j1, j2, j3, j4⟩ := Cel.at0 HD.out.cel
      have hlook := HD.out.map.look hfit
      obtain ⟨n0, hn0⟩ : ∃ n0, n0 = (passes ks (m.files.take k) m.l).1 := ⟨_, rfl⟩
      rw [← hn0]
      rw [show lookV (lostK m ks k).files vs f = vs f from if_pos hfm] at hlook
      obtain ⟨xs, hxs⟩ : ∃ xs, xs = rows f (lostK m ks k).l := ⟨_, rfl⟩
      have hR : Rw wr B (vs f) xs := by rw [hxs]; exact HD.out.rows f hfm
      have hX : xs.length ≤ 1000 := by rw [hxs]; exact HD.out.inv.rows_le f
      have hXF : Full xs := by rw [hxs]; exact HD.out.inv.r512 f
      have hn1 : n0 ≤ 1000 := by
        have h1 := (passes_bound ks (m.files.take k) m.l).1
        have h2 := H.out.inv.most
        have h3 := H.out.inv.room
        omega
      have hX0 : 0 < xs.length := by rw [hxs]; exact HD.out.inv.pos hfm
      obtain ⟨g, cap, hv, hgB, hgl⟩ : ∃ g cap, vs f = .slice (some ⟨g, 0, none⟩) xs.length cap ∧ B ≤ g ∧ g < wr.heap.size := by
        rcases hR.cases with ⟨_, e⟩ | ⟨g, cap, e, h1, h2, _⟩
        · rw [e] at hX0; simp at hX0
        · exact ⟨g, cap, e, h1, h2⟩
      rw [hv] at hlook hR
      have HV := Lib.hid hv
      have HN0 := Lib.hid hn0
      have HXS := Lib.hid hxs
      have HR := Lib.hid hR
      have HXF := Lib.hid hXF
      have HF0 := Lib.hid hf
      clear hf hv hn0 hxs hR hXF e2 ho2 j0 j1 j3 j4 hfit hfm
      obtain ⟨wo, rfl⟩ : ∃ wo : World, wo = wr := ⟨_, rfl⟩
      go_wp2_with fail
      go_loopw [4, 24] (fun n i wi => ∃ j : Nat, j ≤ xs.length ∧ i = .int .i64 j ∧ n = .int .i64 ((n0 + uns (xs.take j) : Nat) : Int) ∧ Rw wi B (.slice (some ⟨g, 0, none⟩) xs.length cap) (mid ks n0 xs j) ∧ wo.grownBy wi (some g))
        (fun _ i _ => xs.length - (Go.RowKit.intOf i).toNat)
      case atStart => exact ⟨0, Nat.zero_le _, rfl, rfl, by simpa [mid, rowZ] using HR.out, ⟨rfl, rfl, rfl, Nat.le_refl _, fun _ _ _ => rfl⟩⟩
      case round =>
        obtain ⟨j, hj, rfl, rfl, hRi, hgi⟩ := hrel
        have HRI := Lib.hid hRi
        have HGI := Lib.hid hgi
        clear hRi hgi
        by_cases hjt : j < xs.length
        · obtain ⟨x, hx⟩ : ∃ x, xs[j]? = some x := ⟨_, List.getElem?_eq_getElem hjt⟩
          have hmx := mid_at (ks := ks) (n := n0) x hx
          have hr := HRI.out
          rw [← mid_len (ks := ks) (n := n0) (j := j)] at hr
          have hfl := hr.flag (mid_full HXF.out j) hmx
          have hu := uns_le (xs.take j)
          have hu2 : (xs.take j).length ≤ j := List.length_take_le _ _
          have hut := uns_take hx
          obtain ⟨u, hu3⟩ : ∃ u, u = n0 + uns (xs.take j) := ⟨_, rfl⟩
          rw [← hu3]
          have hu4 : u ≤ 2000 := by omega
          have HHR := Lib.hid hr
          have HMX := Lib.hid hmx
          have HX0 := Lib.hid hx
          have HUT := Lib.hid hut
          have HU3 := Lib.hid hu3
          clear hr hmx hx hu hu2 hut hu3
          cases hs : x.s
          · rw [hs] at hfl
            have HS := Lib.hid hs
            clear hs
            have hst : (storeCells { block := g, off := j * 513 } zl).run Tryz.prog wr = .ok () (wr.setCells g (j * 513) zl) := by
              have hl : zl.length = 512 := by rw [HZ.out]; exact List.length_replicate ..
              have hcl : ∀ q, q < zl.length → (wr.cell? ⟨g, j * 513 + 0 + q, none⟩).isSome = true := fun q hq => by
                have h1 := cellsOf_at (mid_full (ks := ks) (n := n0) HXF.out j) HMX.out (k := q) (by omega)
                have h2 := Sc.cells_len (mid_full (ks := ks) (n := n0) HXF.out j x (List.mem_of_getElem? HMX.out))
                rw [List.getElem?_eq_getElem (l := x.cells) (by omega)] at h1
                have := World.ownsRow.cells HHR.out (g := g) rfl _ _ h1
                rw [Addr.add_lit, Nat.zero_add] at this
                rw [Nat.add_zero, this]; rfl
              have := run_storeCells_cells (P := Tryz.prog) g (j * 513) zl 0 wr hcl (fun q hq => World.ownsRow.frozenAt HHR.out _) (fun v hv => by rw [HZ.out] at hv; rw [List.eq_of_mem_replicate hv]; rfl)
              simpa using this
            have hzr : Rw (wr.setCells g (j * 513) zl) B (.slice (some ⟨g, 0, none⟩) xs.length cap) ((mid ks n0 xs j).set j ⟨zeros, false⟩) ∧ wr.grownBy (wr.setCells g (j * 513) zl) (some g) := by
              have := HHR.out.zeroAt (mid_full HXF.out j) HMX.out false HS.out
              rw [show zeros.map v8 = zl by rw [HZ.out]; exact List.map_replicate, mid_len] at this
              exact this
            have HZR := Lib.hid hzr
            clear hzr
            by_cases hge : ks.length ≤ u
            · have hkd : ks.getD u false = false := by rw [List.getD_eq_getElem?_getD, List.getElem?_eq_none hge]; rfl
              have HKD := Lib.hid hkd
              clear hkd
              have hlc := HZL.out
              go_wp2_with fail
              have hw := HUT.out
              rw [HS.out] at hw
              have hw2 : n0 + uns (xs.take (j + 1)) = u + 1 := by rw [hw, HU3.out]; simp; omega
              have hm := mid_set (ks := ks) (n := n0) HX0.out ⟨zeros, false⟩ (rowZ_zero HS.out (by rw [← HU3.out]; exact HKD.out))
              have hZ2 := HZR.out
              rw [hm] at hZ2
              go_roundw
              case rel => exact ⟨j + 1, by omega, by go_num, by rw [hw2]; go_num, hZ2.1, HGI.out.andThen hZ2.2 (fun j hj => .inr hj)⟩
              case measure => simp [Go.RowKit.intOf]; omega
            · obtain ⟨ad, hA, _, hkc⟩ := HKN.out (by omega)
              subst hA
              obtain ⟨kb, hkb⟩ : ∃ kb, ks[u]? = some kb := ⟨_, List.getElem?_eq_getElem (by omega)⟩
              have hkd : ks.getD u false = kb := by rw [List.getD_eq_getElem?_getD, hkb]; rfl
              have hkr : Bo wr B (.slice (some ad) ks.length kc) ks := HK.out.chg (((Chg.of_below HF.out).trans HC.out).trans (Rw.chg (v := .slice (some ⟨g, 0, none⟩) xs.length cap) HR.out HGI.out)) (by rintro cs fz (h | h) <;> revert h <;> decide)
              have hkcell : wr.cell? (ad.add u) = some (.bool kb) := by
                obtain ⟨A, c, e, _, h0⟩ := hkr
                cases e
                obtain ⟨ad', e2, _, h1⟩ := h0 (by omega)
                cases e2
                exact h1 u kb hkb
              have HKD := Lib.hid hkd
              clear hkd hkb hkc hkr
              cases kb
              · have hlc := HZL.out
                go_wp2_with fail
                have hw := HUT.out
                rw [HS.out] at hw
                have hw2 : n0 + uns (xs.take (j + 1)) = u + 1 := by rw [hw, HU3.out]; simp; omega
                have hm := mid_set (ks := ks) (n := n0) HX0.out ⟨zeros, false⟩ (rowZ_zero HS.out (by rw [← HU3.out]; exact HKD.out))
                have hZ2 := HZR.out
                rw [hm] at hZ2
                go_roundw
                case rel => exact ⟨j + 1, by omega, by go_num, by rw [hw2]; go_num, hZ2.1, HGI.out.andThen hZ2.2 (fun j hj => .inr hj)⟩
                case measure => simp [Go.RowKit.intOf]; omega
              · clear hst
                go_wp2_with fail
                have hw := HUT.out
                rw [HS.out] at hw
                have hw2 : n0 + uns (xs.take (j + 1)) = u + 1 := by rw [hw, HU3.out]; simp; omega
                have hm := mid_same (ks := ks) (n := n0) HX0.out (rowZ_kept HS.out (by rw [← HU3.out]; exact HKD.out))
                have hZ2 := HRI.out
                rw [hm] at hZ2
                go_roundw
                case rel => exact ⟨j + 1, by omega, by go_num, by rw [hw2]; go_num, hZ2, HGI.out⟩
                case measure => simp [Go.RowKit.intOf]; omega
          · rw [hs] at hfl
            have HS := Lib.hid hs
            clear hs
            go_wp2_with fail
            go_roundw
            case rel => exact ⟨j + 1, by omega, by go_num, by rw [HUT.out, HU3.out, HS.out]; rfl, by rw [← mid_same HX0.out (by rw [rowZ_cons, HS.out]; rfl)]; exact HRI.out, HGI.out⟩
            case measure => simp [Go.RowKit.intOf]; omega
        · obtain rfl : j = xs.length := by omega
          have hy := syncAll_ok wr B (.slice (some ⟨g, 0, none⟩) xs.length cap) (rowZ ks n0 xs) (by have := HRI.out; simpa [mid] using this) (rowZ_512 ks n0 _ HXF.out) (by rw [rowZ_len]; exact hX)
          clear hj
          go_wp2_with fail
          refine hy.mono ?_
          clear hy
          rintro e w2 ⟨rfl, hr2, hg2⟩
          have HR2 := Lib.hid hr2
          have HG2 := Lib.hid (HGI.out.andThen hg2 (fun j hj => .inr hj))
          clear hr2 hg2
          have hfew := H.out.inv.few
          go_wp2_with fail
          obtain ⟨q1, q2⟩ := lostK_succ (ks := ks) HF0.out
          have hfm : f ∈ m.files := List.mem_of_getElem? HF0.out
          have hgr : wo.grownBy w2 (vs f).ownBlock := by rw [HV.out]; exact HG2.out
          have hrow : Rw wo B (vs f) xs := by rw [HV.out]; exact HR.out
          have hq : (passes ks (m.files.take (k + 1)) m.l).1 = n0 + uns xs := by rw [q2, HN0.out, HXS.out]
          go_roundw
          case rel =>
            refine ⟨k + 1, by omega, by go_num, by rw [hq]; go_num, HD.out.row hfm hgr ?_ (fun g hg => ?_) (H.out.inv.lostK ks (k + 1)) rfl rfl rfl rfl, HC.out.trans (hrow.chg hgr)⟩
            · rw [q1, rows_pass_same, HV.out, ← HXS.out, ← HN0.out]; exact HR2.out
            · rw [q1, rows_pass_other ks f g hg]
          case measure => simp [Go.RowKit.intOf]; omega
    · obtain rfl : k = m.files.length := by omega
      obtain ⟨j0, j1, j2, j3, j4⟩ := Cel.at0 HD.out.cel
      obtain ⟨f0, f1, f2, f3, f4⟩ := Cel.free5 HD.out.cel
      clear j0 j2 hk
      go_wp2_with fail
      go_end0
      have hc := ((HD.out.cel.set 1 (.bool false)).set 3 (.int .i64 (-1))).set 4 (.slice none 0 0)
      have hg := ((grown_setCell wr ⟨d, 1, none⟩ (.bool false)).andThen (grown_setCell _ ⟨d, 3, none⟩ (.int .i64 (-1))) (fun j hj => .inr hj)).andThen (grown_setCell _ ⟨d, 4, none⟩ (.slice none 0 0)) (fun j hj => .inr hj)
      obtain ⟨r1, r2⟩ := HD.out.head hg true none (.slice none 0 0) hc (by simp) (by simp)
      rw [lostK_end] at r1
      exact ⟨rfl, r1, ((Chg.of_below HF.out).trans HC.out).trans r2⟩
end Go.Proofs.YtdaknfepcbooeaaGreat.Disk
end

section
namespace Go.Proofs.YtdaknfepcbooeaaGreat.Disk
open Go.RowKit Go.Maps
set_option linter.unusedVariables false
set_option linter.unusedSimpArgs false

theorem fails_iff {m : M} : fails m = true ↔ ∃ k, m.plan = some (0, k) := by
  unfold fails
  split
  · rename_i k e; exact ⟨fun _ => ⟨k, e⟩, fun _ => rfl⟩
  · rename_i h; exact ⟨fun h => (by cases h), fun ⟨k, e⟩ => absurd e (h k)⟩
theorem stepped_fails {m : M} {k : List Bool} (h : m.plan = some (0, k)) : stepped m = lost m k := by unfold stepped; rw [h]
theorem stepped_more {m : M} {n : Nat} {k : List Bool} (h : m.plan = some (n + 1, k)) : stepped m = { m with plan := some (n, k) } := by unfold stepped; rw [h]
theorem stepped_none {m : M} (h : m.plan = none) : stepped m = m := by unfold stepped; rw [h]
theorem lost_take {m : M} (h : Inv m) (k : List Bool) : lost m (k.take m.room) = lost m k := by
  unfold lost
  rw [passes_take _ _ _ _ h.most]

set_option maxRecDepth 100000 in
set_option maxHeartbeats 1000000 in
theorem step_fails (w : World) (B d b : Nat) (m : M) (vs : Int → Value) (kv fv : Value) (h : Dv w B d m b vs kv) (hB : B ≤ w.heap.size) (hf : fails m = true) :
    Calls Tryz.prog 51 #[.pointer (some ⟨d, 0, none⟩), fv] w fun e w' => e = .returned (.int .i64 8) ∧ Dv w' B d (stepped m) b vs (.slice none 0 0) ∧ Chg B Dob w w' := by
  obtain ⟨k, hp⟩ := fails_iff.1 hf
  obtain ⟨k0, k1, k2, k3, k4⟩ := Cel.at0 h.cel
  rw [hp] at k3
  simp only [leftOf] at k3
  have hl : (k.take m.room).length ≤ maxLen := by
    have := h.inv.room
    rw [List.length_take]; unfold maxLen; omega
  have con := lose_ok w B d b m vs kv kv (k.take m.room) h (h.keep _ _ hp) hB hl
  rw [lost_take h.inv, ← stepped_fails hp] at con
  clear hf hp k0 k1 k2 hl h
  go_enter Tryz.func51, Tryz.ntmps51
  go_wp2_with (first | (go_at_call 48; refine con.mono ?_; rintro e w' ⟨rfl, h1, h2⟩))
  go_ret
  exact ⟨rfl, h1, h2⟩

set_option maxRecDepth 100000 in
set_option maxHeartbeats 1000000 in
theorem step_goes (w : World) (B d b : Nat) (m : M) (vs : Int → Value) (kv ov : Value) (F : Nat) (Post : World → Prop) (hent : ∀ args w, (callFunc F args).run Tryz.prog w = .ok (.enter F args) w) (h : Dv w B d m b vs kv) (hf : fails m = false)
    (hdo : ∀ w1, Dv w1 B d (stepped m) b vs kv → Chg B Dob w w1 → Calls Tryz.prog F #[ov] w1 fun e w' => e = .returned (.tuple #[]) ∧ Post w') :
    Calls Tryz.prog 51 #[.pointer (some ⟨d, 0, none⟩), .func (.func F) #[ov] #[]] w fun e w' => e = .returned (.int .i64 0) ∧ Post w' := by
  obtain ⟨k0, k1, k2, k3, k4⟩ := Cel.at0 h.cel
  obtain ⟨f0, f1, f2, f3, f4⟩ := Cel.free5 h.cel
  cases hp : m.plan with
  | none =>
    have con := hdo w (by rw [stepped_none hp]; exact h) (Chg.refl _ _ _)
    rw [hp] at k3
    simp only [leftOf] at k3
    clear hdo hf hp k0 k1 k2 k4 f0 f1 f2 f3 f4 h
    go_enter Tryz.func51, Tryz.ntmps51
    go_wp2_with (first | (refine con.mono ?_; rintro e w' ⟨rfl, h1⟩))
    go_ret
    exact ⟨rfl, h1⟩
  | some p =>
    obtain ⟨n, ks⟩ := p
    cases n with
    | zero => rw [fails_iff.2 ⟨ks, hp⟩] at hf; cases hf
    | succ n =>
      have hbd := h.inv.plan _ _ hp
      have hw1 : Dv (w.setCell ⟨d, 3, none⟩ (.int .i64 n)) B d (stepped m) b vs kv ∧ Chg B Dob w (w.setCell ⟨d, 3, none⟩ (.int .i64 n)) := by
        have hc := h.cel.set 3 (.int .i64 n)
        have := h.head (grown_setCell w ⟨d, 3, none⟩ (.int .i64 n)) m.off (some (n, ks)) kv hc (fun a b e => by cases e; omega) (fun a c e => by
          cases e
          exact (h.keep _ _ hp).chg ((Chg.refl B Dob w).grown (grown_setCell w ⟨d, 3, none⟩ (.int .i64 n)) fun g e => by cases e; exact .inr ⟨h.own.1, _, h.cel, .inl rfl⟩) (by rintro cs fz (h | h) <;> revert h <;> decide))
        rw [stepped_more hp]
        exact this
      have con := hdo _ hw1.1 hw1.2
      rw [hp] at k3
      simp only [leftOf] at k3
      have en : IntKind.i64.wrap (((n + 1 : Nat) : Int) - 1) = (n : Int) := by rw [show ((n + 1 : Nat) : Int) - 1 = (n : Int) by omega]; exact IntWalk.i64_in _ (by omega)
      clear hdo hf hp k0 k1 k2 k4 f0 f1 f2 f4 h hw1
      go_enter Tryz.func51, Tryz.ntmps51
      go_wp2_with (first | (refine con.mono ?_; rintro e w' ⟨rfl, h1⟩))
      go_ret
      exact ⟨rfl, h1⟩
end Go.Proofs.YtdaknfepcbooeaaGreat.Disk
end
