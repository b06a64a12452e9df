/-
  The document's Read, Sync, Remove.
-/
import Derived.Test.YtbomgglmplecpaaGreatMDiskCalls
import Derived.Test.YtbomgglmplecpaaGreatMDiskRefAdd
namespace Go.Proofs.YtbomgglmplecpaaGreat.Disk
open Go.RowKit Go.Proofs.YtbomgglmplecpaaGreat.Ord
set_option linter.unusedVariables false
set_option linter.unusedSimpArgs false

theorem undS : Tryz.prog.underlying 85 = some (.slice 9) := by kernel_rfl
theorem infoS : (Tryz.prog.info? 9).map (fun i => (i.zero, i.size, i.bytes)) = some (some (.string ⟨#[]⟩), 1, 16) := by kernel_rfl
theorem stringsT : ElemRow Tryz.prog 85 9 1 16 := ElemRow.mk' undS infoS rfl (by decide)
/-- A row of strings. -/
def Rst (w : World) (B : Nat) (v : Value) (xs : List (List (BitVec 8))) : Prop := w.ownsRow B 9 1 v xs.length (xs.map fun b => Value.string (str b))
theorem Rst.form {w : World} {B : Nat} {v : Value} {xs : List (List (BitVec 8))} (h : Rst w B v xs) : ∃ A c, v = .slice A xs.length c := own_slice _ h

set_option maxRecDepth 100000 in
set_option maxHeartbeats 2000000 in
theorem rread_ok (w : World) (B d : Nat) (m : M) (f : Int) (h : Fk w B d m) :
    Calls Tryz.prog 41 #[.pointer (some ⟨d, 0, none⟩), .int .i64 f] w fun r w' => ∃ A c, r = .returned (.slice A (rows f m.l).length c) ∧ Rst w' w.heap.size (.slice A (rows f m.l).length c) ((rows f m.l).map Sc.b) ∧ Below w.heap.size w w' := by
  obtain ⟨A, c, lv, kv, left, h⟩ := h
  obtain ⟨lA, lc, hlv⟩ := h.row.form
  subst hlv
  have hll : m.l.length ≤ 1000 := by have := h.inv.most; have := h.inv.room; omega
  have H := Lib.hid h
  have k2 := h.cel.cell 2
  clear h
  go_enter Tryz.func41, Tryz.ntmps41
  go_wp2_with fail
  go_loopw [5, 6] (fun v i wr => ∃ j : Nat, j ≤ m.l.length ∧ i = .int .i64 j ∧ Rst wr w.heap.size v ((rows f (m.l.take j)).map Sc.b) ∧ Below w.heap.size w wr)
    (fun _ i _ => m.l.length - (Go.RowKit.intOf i).toNat)
  case atStart => exact ⟨0, Nat.zero_le _, rfl, World.ownsRow_nil _ _ _ _, Below.refl _ _⟩
  case round =>
    obtain ⟨j, hj, rfl, hrl, hbw⟩ := hrel
    have HRL := Lib.hid hrl
    have HB := Lib.hid hbw
    have k2' := (Cel.below H.out.cel hbw H.out.cel.lt).cell 2
    clear hrl hbw k2
    by_cases hlt : j < m.l.length
    · obtain ⟨x, hx⟩ : ∃ x, m.l[j]? = some x := ⟨_, List.getElem?_eq_getElem hlt⟩
      have hR1 : Rl wr B (.slice lA m.l.length lc) m.l := H.out.row.chg (B' := 0) (T := fun _ => False) (Chg.of_below HB.out) (fun _ _ h => h)
      obtain ⟨g, cap, hv, hgB, hgl⟩ : ∃ g cap, Value.slice lA m.l.length lc = .slice (some ⟨g, 0, none⟩) m.l.length cap ∧ B ≤ g ∧ g < wr.heap.size := by
        rcases hR1.cases with ⟨_, e⟩ | ⟨g, cap, e, h1, h2, _⟩
        · rw [e] at hlt; simp at hlt
        · exact ⟨g, cap, e, h1, h2⟩
      cases hv
      obtain ⟨q0, q1, q2⟩ := hR1.cell hx
      have hxl : m.l.take (j + 1) = m.l.take j ++ [x] := by
        obtain ⟨hj2, e⟩ := List.getElem?_eq_some_iff.1 hx
        rw [List.take_succ_eq_append_getElem hj2, e]
      have HXL := Lib.hid hxl
      clear hx hxl hR1
      by_cases hxf : x.file = f
      · subst hxf
        have hd : (rows x.file (m.l.take (j + 1))).map Sc.b = (rows x.file (m.l.take j)).map Sc.b ++ [x.b] := by rw [HXL.out, rows_app]; simp [rows, Cl.sc]
        have hpl : ((rows x.file (m.l.take j)).map Sc.b).length ≤ 1000 := by
          have h1 := rows_len x.file (m.l.take j)
          have h2 : (m.l.take j).length ≤ j := List.length_take_le _ _
          rw [List.length_map]; omega
        obtain ⟨pl, hpl2⟩ : ∃ pl, pl = ((rows x.file (m.l.take j)).map Sc.b).length := ⟨_, rfl⟩
        have hnew : Src (wr.alloc (.cells #[.string (str x.b)] 9)) (some ⟨wr.heap.size, 0, none⟩) 1 [.string (str x.b)] := fun _ => ⟨_, rfl, fun q u hu => by rw [Addr.add_lit, Nat.zero_add]; exact ((Cel.new wr 9 [.string (str x.b)]).cell q).trans hu⟩
        have hown : (wr.alloc (.cells #[.string (str x.b)] 9)).ownsRow w.heap.size 9 1 u5 pl (((rows x.file (m.l.take j)).map Sc.b).map fun b => Value.string (str b)) := by rw [hpl2]; exact World.ownsRow.alloc HRL.out _
        have hn1 : pl ≤ 1000 := by omega
        have hsz := HB.out.size
        have HD := Lib.hid hd
        have HPL := Lib.hid hpl2
        have HNEW := Lib.hid hnew
        have HOWN := Lib.hid hown
        clear hd hpl hpl2 hnew hown
        go_wp2_with ((at_builtin; refine wpList_append_any _ rfl (.tmp 26) (.tmp 35) 85 rfl w.heap.size 9 stringsT _ pl _ rfl HOWN.out (some ⟨wr.heap.size, 0, none⟩) 1 1 [.string (str x.b)] rfl rfl HNEW.out (by simp [Value.oneCell']) (pl + 1) _ rfl rfl (by unfold maxLen; omega) (by omega) (by simp; omega) ?_; intro A3 c3 w3 o3 g3 _; have O3 := Lib.hid o3; have G3 := Lib.hid g3; clear o3 g3))
        have hrl3 : Rst w3 w.heap.size (.slice A3 (pl + 1) c3) ((rows x.file (m.l.take (j + 1))).map Sc.b) := by
          rw [HD.out]
          unfold Rst
          rw [List.length_append, List.map_append, ← HPL.out]
          exact O3.out
        have hb3 : Below w.heap.size w w3 := (HB.out.alloc HB.out.size _).grown G3.out (by simp; omega) (fun q hq => (World.ownsRow.lt HOWN.out q hq).1)
        go_roundw
        case rel => exact ⟨j + 1, by omega, by go_num, hrl3, hb3⟩
        case measure => simp [Go.RowKit.intOf]; omega
      · have hq : (x.file == f) = false := by simpa using hxf
        have hq2 : (x.file != f) = true := by simpa using hxf
        have hd : (rows f (m.l.take (j + 1))) = (rows f (m.l.take j)) := by rw [HXL.out, rows_app]; simp [rows, hxf]
        have HD := Lib.hid hd
        clear hd
        go_wp2_with fail
        go_roundw
        case rel => exact ⟨j + 1, by omega, by go_num, by rw [HD.out]; exact HRL.out, HB.out⟩
        case measure => simp [Go.RowKit.intOf]; omega
    · obtain rfl : j = m.l.length := by omega
      have hrl2 := HRL.out
      rw [List.take_length] at hrl2
      obtain ⟨A4, c4, hv4⟩ := hrl2.form
      have HRL2 := Lib.hid hrl2
      subst hv4
      clear hrl2
      go_wp2_with fail
      go_ret
      have := HRL2.out
      rw [List.length_map] at this
      exact ⟨A4, c4, by show Ending.returned (.slice A4 ((rows f m.l).map Sc.b).length c4) = _; rw [List.length_map], this, HB.out⟩

set_option maxRecDepth 100000 in
set_option maxHeartbeats 1000000 in
theorem rsync_not (w : World) (B d : Nat) (m : M) (f : Int) (h : Fk w B d m) (ht : there m f ≠ 0) :
    Calls Tryz.prog 37 #[.pointer (some ⟨d, 0, none⟩), .int .i64 f] w (RDid w B d (.int .i64 (there m f)) m) := by
  have con := rthere_ok w B d m f h
  have H := Lib.hid h
  obtain ⟨x, hx⟩ : ∃ x, x = there m f := ⟨_, rfl⟩
  rw [← hx] at ht con ⊢
  have q1 : (x == 0) = false := by simpa using ht
  have q2 : (x != 0) = true := by simpa using ht
  clear h hx ht
  go_enter Tryz.func37, Tryz.ntmps37
  go_wp2_with (first | (go_at_call 51; refine con.mono ?_; rintro e w' ⟨rfl, rfl⟩))
  go_ret
  exact ⟨rfl, H.out, Chg.refl _ _ _⟩
set_option maxRecDepth 100000 in
set_option maxHeartbeats 1000000 in
theorem rremove_not (w : World) (B d : Nat) (m : M) (f : Int) (h : Fk w B d m) (ht : there m f ≠ 0) :
    Calls Tryz.prog 29 #[.pointer (some ⟨d, 0, none⟩), .int .i64 f] w (RDid w B d (.int .i64 (there m f)) m) := by
  have con := rthere_ok w B d m f h
  have H := Lib.hid h
  obtain ⟨x, hx⟩ : ∃ x, x = there m f := ⟨_, rfl⟩
  rw [← hx] at ht con ⊢
  have q1 : (x == 0) = false := by simpa using ht
  have q2 : (x != 0) = true := by simpa using ht
  clear h hx ht
  go_enter Tryz.func29, Tryz.ntmps29
  go_wp2_with (first | (go_at_call 51; refine con.mono ?_; rintro e w' ⟨rfl, rfl⟩))
  go_ret
  exact ⟨rfl, H.out, Chg.refl _ _ _⟩
/-- What the sectors have become behind the first j of them. -/
def mapTo (q : Cl → Cl) (l : List Cl) (j : Nat) : List Cl := (l.take j).map q ++ l.drop j
theorem mapTo_at {q : Cl → Cl} {l : List Cl} {j : Nat} {x : Cl} (h : l[j]? = some x) : (mapTo q l j)[j]? = some x := by
  have hj := (List.getElem?_eq_some_iff.1 h).1
  have hl : ((l.take j).map q).length = j := by rw [List.length_map, List.length_take]; omega
  unfold mapTo
  rw [List.getElem?_append_right (by omega), hl, Nat.sub_self, List.getElem?_drop]
  exact h
theorem mapTo_len {q : Cl → Cl} {l : List Cl} {j : Nat} : (mapTo q l j).length = l.length := by
  unfold mapTo
  rw [List.length_append, List.length_map, List.length_take, List.length_drop]
  omega
theorem mapTo_set {q : Cl → Cl} {l : List Cl} {j : Nat} {x : Cl} (h : l[j]? = some x) : (mapTo q l j).set j (q x) = mapTo q l (j + 1) := by
  obtain ⟨hj, rfl⟩ := List.getElem?_eq_some_iff.1 h
  have hl : ((l.take j).map q).length = j := by rw [List.length_map, List.length_take]; omega
  unfold mapTo
  rw [List.set_append_right _ _ (by omega), hl, Nat.sub_self, List.drop_eq_getElem_cons hj, List.set_cons_zero, List.take_succ_eq_append_getElem hj, List.map_append, List.append_assoc]
  rfl
theorem mapTo_same {q : Cl → Cl} {l : List Cl} {j : Nat} {x : Cl} (h : l[j]? = some x) (hq : q x = x) : mapTo q l j = mapTo q l (j + 1) := by
  rw [← mapTo_set h, hq]
  refine List.ext_getElem? fun i => ?_
  rw [List.getElem?_set]
  have h2 := mapTo_at (q := q) h
  split
  · rename_i e
    subst e
    rw [if_pos (List.getElem?_eq_some_iff.1 h2).1, h2]
  · rfl
theorem mapTo_all (q : Cl → Cl) (l : List Cl) : mapTo q l l.length = l.map q := by simp [mapTo]
theorem there_on {m : M} {f : Int} (h : there m f = 0) : m.off = false := by
  unfold there at h
  cases ho : m.off
  · rfl
  · rw [ho] at h; simp at h

set_option maxRecDepth 100000 in
set_option maxHeartbeats 1000000 in
theorem rsync_fails (w : World) (B d : Nat) (m : M) (f : Int) (h : Fk w B d m) (hB : B ≤ w.heap.size) (ht : there m f = 0) (hpl : ∀ k ks, m.plan = some (k, ks) → ks.length ≤ maxLen) (h5 : fails m = true) :
    Calls Tryz.prog 37 #[.pointer (some ⟨d, 0, none⟩), .int .i64 f] w (RDid w B d (.int .i64 8) (stepped m)) := by
  have con := rthere_ok w B d m f h
  have con2 := rfails_ok w B d m h hB (there_on ht) hpl
  rw [ht] at con
  rw [h5] at con2
  clear h hB ht hpl h5
  go_enter Tryz.func37, Tryz.ntmps37
  go_wp2_with (first | (go_at_call 51; refine con.mono ?_; rintro e w' ⟨rfl, rfl⟩) | (go_at_call 52; refine con2.mono ?_; rintro e w' ⟨rfl, h1, h2⟩))
  go_ret
  exact ⟨rfl, h1, h2⟩
set_option maxRecDepth 100000 in
set_option maxHeartbeats 1000000 in
theorem rremove_fails (w : World) (B d : Nat) (m : M) (f : Int) (h : Fk w B d m) (hB : B ≤ w.heap.size) (ht : there m f = 0) (hpl : ∀ k ks, m.plan = some (k, ks) → ks.length ≤ maxLen) (h5 : fails m = true) :
    Calls Tryz.prog 29 #[.pointer (some ⟨d, 0, none⟩), .int .i64 f] w (RDid w B d (.int .i64 8) (stepped m)) := by
  have con := rthere_ok w B d m f h
  have con2 := rfails_ok w B d m h hB (there_on ht) hpl
  rw [ht] at con
  rw [h5] at con2
  clear h hB ht hpl h5
  go_enter Tryz.func29, Tryz.ntmps29
  go_wp2_with (first | (go_at_call 51; refine con.mono ?_; rintro e w' ⟨rfl, rfl⟩) | (go_at_call 52; refine con2.mono ?_; rintro e w' ⟨rfl, h1, h2⟩))
  go_ret
  exact ⟨rfl, h1, h2⟩

set_option maxRecDepth 100000 in
set_option maxHeartbeats 1000000 in
theorem rremove_goes (w : World) (B d : Nat) (m : M) (f : Int) (h : Fk w B d m) (hB : B ≤ w.heap.size) (hi : Inv m) (ht : there m f = 0) (hpl : ∀ k ks, m.plan = some (k, ks) → ks.length ≤ maxLen) (h5 : fails m = false) :
    Calls Tryz.prog 29 #[.pointer (some ⟨d, 0, none⟩), .int .i64 f] w (RDid w B d (.int .i64 0) { stepped m with files := without f m.files, l := dropL f m.l }) := by
  have con := rthere_ok w B d m f h
  have con2 := rfails_ok w B d m h hB (there_on ht) hpl
  rw [ht] at con
  rw [h5] at con2
  have hir := hi.remove f
  rw [remove_goes ht h5] at hir
  have his := hi.stepped
  obtain ⟨e1, e2, e3, e4⟩ := stepped_same h5
  have con3 := fun (w1 : World) (h1 : Fk w1 B d (stepped m)) (hB1 : B ≤ w1.heap.size) => rdrop_ok w1 B d (stepped m) f h1.fu hB1 his.sorted his.few (by have := his.most; have := his.room; omega)
  rw [e1, e2] at con3
  have HIR := Lib.hid hir
  clear h ht hpl h5 hir his e1 e2 e3 e4 hi
  go_enter Tryz.func29, Tryz.ntmps29
  go_wp2_with (first | (go_at_call 51; refine con.mono ?_; rintro e w' ⟨rfl, rfl⟩) | (go_at_call 52; refine con2.mono ?_; rintro e w1 ⟨rfl, h1, h2⟩; have con4 := con3 w1 h1 (Nat.le_trans hB h2.size)) | (go_at_call 53; refine con4.mono ?_; rintro e w2 ⟨rfl, h3, h4⟩))
  go_ret
  exact ⟨rfl, h3.fk HIR.out, h2.trans h4⟩

set_option maxRecDepth 100000 in
set_option maxHeartbeats 2000000 in
theorem rsync_goes (w : World) (B d : Nat) (m : M) (f : Int) (h : Fk w B d m) (hB : B ≤ w.heap.size) (hi : Inv m) (ht : there m f = 0) (hpl : ∀ k ks, m.plan = some (k, ks) → ks.length ≤ maxLen) (h5 : fails m = false) :
    Calls Tryz.prog 37 #[.pointer (some ⟨d, 0, none⟩), .int .i64 f] w (RDid w B d (.int .i64 0) { stepped m with l := syncL f m.l }) := by
  have con := rthere_ok w B d m f h
  have con2 := rfails_ok w B d m h hB (there_on ht) hpl
  rw [ht] at con
  rw [h5] at con2
  have hir := hi.sync f
  rw [sync_goes ht h5] at hir
  obtain ⟨e1, e2, e3, e4⟩ := stepped_same h5
  have hll : m.l.length ≤ 1000 := by have := hi.most; have := hi.room; omega
  have HIR := Lib.hid hir
  have E2 := Lib.hid e2
  clear h ht hpl h5 hir e1 e2 e3 e4 hi
  go_enter Tryz.func37, Tryz.ntmps37
  go_wp2_with (first | (go_at_call 51; refine con.mono ?_; rintro e w' ⟨rfl, rfl⟩) | (go_at_call 52; refine con2.mono ?_; rintro e w1 ⟨rfl, h1, h2⟩))
  obtain ⟨A, c, lv, kv, left, h1⟩ := h1
  obtain ⟨lA, lc, hlv⟩ := h1.row.form
  subst hlv
  obtain ⟨l0, hl0⟩ : ∃ l0, l0 = (stepped m).l := ⟨_, rfl⟩
  have hlen : (stepped m).l.length = m.l.length := by rw [E2.out]
  rw [hlen] at h1
  have hrow0 := h1.row
  rw [← hl0] at hrow0
  have hl0l : l0.length = m.l.length := by rw [hl0, hlen]
  have k2 := h1.cel.cell 2
  have H := Lib.hid h1
  have HL0 := Lib.hid hl0
  have HLL := Lib.hid hl0l
  have HROW0 := Lib.hid hrow0
  have HCH := Lib.hid h2
  clear h1 h2 hl0 hl0l hrow0 hlen
  go_loopw [6] (fun i wr => ∃ j : Nat, j ≤ m.l.length ∧ i = .int .i64 j ∧ Rl wr B (.slice lA m.l.length lc) (mapTo (fun c : Cl => if c.file = f then ⟨c.file, c.b, true⟩ else c) l0 j) ∧ Chg B Rob w1 wr ∧ Cel wr d 35 [.int .i64 (stepped m).room, .slice A (stepped m).files.length c, .slice lA m.l.length lc, .bool (stepped m).off, .bool (stepped m).plan.isSome, .int .i64 left, kv])
    (fun i _ => m.l.length - (Go.RowKit.intOf i).toNat)
  case atStart => exact ⟨0, Nat.zero_le _, rfl, by simpa [mapTo] using HROW0.out, Chg.refl _ _ _, H.out.cel⟩
  case round =>
    obtain ⟨j, hj, rfl, hrl, hch, hcel⟩ := hrel
    have HRL := Lib.hid hrl
    have HCG := Lib.hid hch
    have HCEL := Lib.hid hcel
    have k2' := hcel.cell 2
    clear hrl hch hcel k2
    by_cases hlt : j < m.l.length
    · obtain ⟨x, hx⟩ : ∃ x, l0[j]? = some x := ⟨_, List.getElem?_eq_getElem (by rw [HLL.out]; exact hlt)⟩
      have hmx := mapTo_at (q := (fun c : Cl => if c.file = f then ⟨c.file, c.b, true⟩ else c)) hx
      have hpl : (mapTo (fun c : Cl => if c.file = f then ⟨c.file, c.b, true⟩ else c) l0 j).length = m.l.length := mapTo_len.trans HLL.out
      obtain ⟨g, cap, hv, hgB, hgl⟩ : ∃ g cap, Value.slice lA m.l.length lc = .slice (some ⟨g, 0, none⟩) m.l.length cap ∧ B ≤ g ∧ g < wr.heap.size := by
        rcases HRL.out.cases with ⟨_, e⟩ | ⟨g, cap, e, q1, q2, _⟩
        · rw [e] at hpl; simp at hpl; omega
        · rw [hpl] at e; exact ⟨g, cap, e, q1, q2⟩
      cases hv
      have hr : Rl wr B (.slice (some ⟨g, 0, none⟩) (mapTo (fun c : Cl => if c.file = f then ⟨c.file, c.b, true⟩ else c) l0 j).length lc) (mapTo (fun c : Cl => if c.file = f then ⟨c.file, c.b, true⟩ else c) l0 j) := by rw [hpl]; exact HRL.out
      obtain ⟨q0, q1, q2⟩ := hr.cell hmx
      have hfz := World.ownsRow.frozenAt hr (j * 3 + 2)
      have HHR := Lib.hid hr
      have HMX := Lib.hid hmx
      have HX0 := Lib.hid hx
      have HPL := Lib.hid hpl
      clear hr hmx hx hpl
      by_cases hxf : x.file = f
      · have hq : (x.file == f) = true := by simpa using hxf
        have HXF := Lib.hid hxf
        clear hxf
        obtain ⟨z1, z2⟩ := HHR.out.set HMX.out (by omega : 2 < 3) (.bool true) ((fun c : Cl => if c.file = f then ⟨c.file, c.b, true⟩ else c) x) (by show _ = Cl.cells (if x.file = f then _ else x); rw [if_pos HXF.out]; rfl)
        rw [mapTo_set HX0.out, HPL.out] at z1
        have hch2 : Chg B Rob w1 (wr.setCell ⟨g, j * 3 + 2, none⟩ (.bool true)) := HCG.out.trans (HRL.out.chgd z2)
        have hcel2 := HCEL.out.far (HRL.out.apart HCEL.out) (p := ⟨g, j * 3 + 2, none⟩) (.bool true)
        have Z1 := Lib.hid z1
        have Z2 := Lib.hid hch2
        have Z3 := Lib.hid hcel2
        clear z1 z2 hch2 hcel2
        go_wp2_with fail
        go_roundw
        case rel => exact ⟨j + 1, by omega, by go_num, Z1.out, Z2.out, Z3.out⟩
        case measure => simp [Go.RowKit.intOf]; omega
      · have hq : (x.file == f) = false := by simpa using hxf
        have hm := mapTo_same (q := (fun c : Cl => if c.file = f then ⟨c.file, c.b, true⟩ else c)) HX0.out (if_neg hxf)
        have HM := Lib.hid hm
        clear hm
        go_wp2_with fail
        go_roundw
        case rel => exact ⟨j + 1, by omega, by go_num, by rw [← HM.out]; exact HRL.out, HCG.out, HCEL.out⟩
        case measure => simp [Go.RowKit.intOf]; omega
    · obtain rfl : j = m.l.length := by omega
      go_wp2_with fail
      go_ret
      have hrl := HRL.out
      rw [← HLL.out, mapTo_all, HLL.out, HL0.out, E2.out] at hrl
      have hx : Fv wr B d { stepped m with l := syncL f m.l } A c _ kv left :=
        ⟨HIR.out, HCEL.out, H.out.own, H.out.cap, H.out.files.chg HCG.out (fun _ _ => notRob_int), hrl, fun k ks e => ⟨(H.out.plan k ks e).1, (H.out.plan k ks e).2.chg HCG.out (fun _ _ => notRob_bool)⟩⟩
      exact ⟨rfl, ⟨_, _, _, _, _, hx⟩, HCH.out.trans HCG.out⟩
end Go.Proofs.YtbomgglmplecpaaGreat.Disk
