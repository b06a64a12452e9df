/-
  The document's Read, Sync, Remove.
  The document's Append.
  The document's Rename.
-/
import Derived.Test.YtdaknfepcbooeaaGreatMDiskC
import Derived.Test.YtdaknfepcbooeaaGreatMDiskD
section
namespace Go.Proofs.YtdaknfepcbooeaaGreat.Disk
open Go.RowKit Go.Proofs.YtdaknfepcbooeaaGreat.Ord
set_option linter.unusedVariables false
set_option linter.unusedSimpArgs false

theorem undS : Tryz.prog.underlying 76 = some (.slice 9) := by kernel_rfl
theorem infoS : (Tryz.prog.info? 9).map (fun i => (i.zero, i.size, i.bytes)) = some (some (.string ⟨#[]⟩), 1, 16) := by kernel_rfl
theorem stringsT : ElemRow Tryz.prog 76 9 1 16 := ElemRow.mk' undS infoS rfl (by decide)
/-- A row of strings. -/
def Rst (w : World) (B : Nat) (v : Value) (xs : List (List (BitVec 8))) : Prop := w.ownsRow B 9 1 v xs.length (xs.map fun b => Value.string (str b))
theorem Rst.form {w : World} {B : Nat} {v : Value} {xs : List (List (BitVec 8))} (h : Rst w B v xs) : ∃ A c, v = .slice A xs.length c := own_slice _ h

set_option maxRecDepth 100000 in
set_option maxHeartbeats 2000000 in
theorem rread_ok (w : World) (B d : Nat) (m : M) (f : Int) (h : Fk w B d m) :
    Calls Tryz.prog 35 #[.pointer (some ⟨d, 0, none⟩), .int .i64 f] w fun r w' => ∃ A c, r = .returned (.slice A (rows f m.l).length c) ∧ Rst w' w.heap.size (.slice A (rows f m.l).length c) ((rows f m.l).map Sc.b) ∧ Below w.heap.size w w' := by
  obtain ⟨A, c, lv, kv, left, h⟩ := h
  obtain ⟨lA, lc, hlv⟩ := h.row.form
  subst hlv
  have hll : m.l.length ≤ 1000 := by have := h.inv.most; have := h.inv.room; omega
  have H := Lib.hid h
  have k2 := h.cel.cell 2
  clear h
  go_enter Tryz.func35, Tryz.ntmps35
  go_wp2_with fail
  go_loopw [5, 6] (fun v i wr => ∃ j : Nat, j ≤ m.l.length ∧ i = .int .i64 j ∧ Rst wr w.heap.size v ((rows f (m.l.take j)).map Sc.b) ∧ Below w.heap.size w wr)
    (fun _ i _ => m.l.length - (Go.RowKit.intOf i).toNat)
  case atStart => exact ⟨0, Nat.zero_le _, rfl, World.ownsRow_nil _ _ _ _, Below.refl _ _⟩
  case round =>
    obtain ⟨j, hj, rfl, hrl, hbw⟩ := hrel
    have HRL := Lib.hid hrl
    have HB := Lib.hid hbw
    have k2' := (Cel.below H.out.cel hbw H.out.cel.lt).cell 2
    clear hrl hbw k2
    by_cases hlt : j < m.l.length
    · obtain ⟨x, hx⟩ : ∃ x, m.l[j]? = some x := ⟨_, List.getElem?_eq_getElem hlt⟩
      have hR1 : Rl wr B (.slice lA m.l.length lc) m.l := H.out.row.chg (B' := 0) (T := fun _ => False) (Chg.of_below HB.out) (fun _ _ h => h)
      obtain ⟨g, cap, hv, hgB, hgl⟩ : ∃ g cap, Value.slice lA m.l.length lc = .slice (some ⟨g, 0, none⟩) m.l.length cap ∧ B ≤ g ∧ g < wr.heap.size := by
        rcases hR1.cases with ⟨_, e⟩ | ⟨g, cap, e, h1, h2, _⟩
        · rw [e] at hlt; simp at hlt
        · exact ⟨g, cap, e, h1, h2⟩
      cases hv
      obtain ⟨q0, q1, q2⟩ := hR1.cell hx
      have hxl : m.l.take (j + 1) = m.l.take j ++ [x] := by
        obtain ⟨hj2, e⟩ := List.getElem?_eq_some_iff.1 hx
        rw [List.take_succ_eq_append_getElem hj2, e]
      have HXL := Lib.hid hxl
      clear hx hxl hR1
      by_cases hxf : x.file = f
      · subst hxf
        have hd : (rows x.file (m.l.take (j + 1))).map Sc.b = (rows x.file (m.l.take j)).map Sc.b ++ [x.b] := by rw [HXL.out, rows_app]; simp [rows, Cl.sc]
        have hpl : ((rows x.file (m.l.take j)).map Sc.b).length ≤ 1000 := by
          have h1 := rows_len x.file (m.l.take j)
          have h2 : (m.l.take j).length ≤ j := List.length_take_le _ _
          rw [List.length_map]; omega
        obtain ⟨pl, hpl2⟩ : ∃ pl, pl = ((rows x.file (m.l.take j)).map Sc.b).length := ⟨_, rfl⟩
        have hnew : Src (wr.alloc (.cells #[.string (str x.b)] 9)) (some ⟨wr.heap.size, 0, none⟩) 1 [.string (str x.b)] := fun _ => ⟨_, rfl, fun q u hu => by rw [Addr.add_lit, Nat.zero_add]; exact ((Cel.new wr 9 [.string (str x.b)]).cell q).trans hu⟩
        have hown : (wr.alloc (.cells #[.string (str x.b)] 9)).ownsRow w.heap.size 9 1 u5 pl (((rows x.file (m.l.take j)).map Sc.b).map fun b => Value.string (str b)) := by rw [hpl2]; exact World.ownsRow.alloc HRL.out _
        have hn1 : pl ≤ 1000 := by omega
        have hsz := HB.out.size
        have HD := Lib.hid hd
        have HPL := Lib.hid hpl2
        have HNEW := Lib.hid hnew
        have HOWN := Lib.hid hown
        clear hd hpl hpl2 hnew hown
        go_wp2_with ((at_builtin; refine wpList_append_any _ rfl (.tmp 26) (.tmp 35) 76 rfl w.heap.size 9 stringsT _ pl _ rfl HOWN.out (some ⟨wr.heap.size, 0, none⟩) 1 1 [.string (str x.b)] rfl rfl HNEW.out (by simp [Value.oneCell']) (pl + 1) _ rfl rfl (by unfold maxLen; omega) (by omega) (by simp; omega) ?_; intro A3 c3 w3 o3 g3 _; have O3 := Lib.hid o3; have G3 := Lib.hid g3; clear o3 g3))
        have hrl3 : Rst w3 w.heap.size (.slice A3 (pl + 1) c3) ((rows x.file (m.l.take (j + 1))).map Sc.b) := by
          rw [HD.out]
          unfold Rst
          rw [List.length_append, List.map_append, ← HPL.out]
          exact O3.out
        have hb3 : Below w.heap.size w w3 := (HB.out.alloc HB.out.size _).grown G3.out (by simp; omega) (fun q hq => (World.ownsRow.lt HOWN.out q hq).1)
        go_roundw
        case rel => exact ⟨j + 1, by omega, by go_num, hrl3, hb3⟩
        case measure => simp [Go.RowKit.intOf]; omega
      · have hq : (x.file == f) = false := by simpa using hxf
        have hq2 : (x.file != f) = true := by simpa using hxf
        have hd : (rows f (m.l.take (j + 1))) = (rows f (m.l.take j)) := by rw [HXL.out, rows_app]; simp [rows, hxf]
        have HD := Lib.hid hd
        clear hd
        go_wp2_with fail
        go_roundw
        case rel => exact ⟨j + 1, by omega, by go_num, by rw [HD.out]; exact HRL.out, HB.out⟩
        case measure => simp [Go.RowKit.intOf]; omega
    · obtain rfl : j = m.l.length := by omega
      have hrl2 := HRL.out
      rw [List.take_length] at hrl2
      obtain ⟨A4, c4, hv4⟩ := hrl2.form
      have HRL2 := Lib.hid hrl2
      subst hv4
      clear hrl2
      go_wp2_with fail
      go_ret
      have := HRL2.out
      rw [List.length_map] at this
      exact ⟨A4, c4, by show Ending.returned (.slice A4 ((rows f m.l).map Sc.b).length c4) = _; rw [List.length_map], this, HB.out⟩

set_option maxRecDepth 100000 in
set_option maxHeartbeats 1000000 in
theorem rsync_not (w : World) (B d : Nat) (m : M) (f : Int) (h : Fk w B d m) (ht : there m f ≠ 0) :
    Calls Tryz.prog 79 #[.pointer (some ⟨d, 0, none⟩), .int .i64 f] w (RDid w B d (.int .i64 (there m f)) m) := by
  have con := rthere_ok w B d m f h
  have H := Lib.hid h
  obtain ⟨x, hx⟩ : ∃ x, x = there m f := ⟨_, rfl⟩
  rw [← hx] at ht con ⊢
  have q1 : (x == 0) = false := by simpa using ht
  have q2 : (x != 0) = true := by simpa using ht
  clear h hx ht
  go_enter Tryz.func79, Tryz.ntmps79
  go_wp2_with (first | (go_at_call 102; refine con.mono ?_; rintro e w' ⟨rfl, rfl⟩))
  go_ret
  exact ⟨rfl, H.out, Chg.refl _ _ _⟩
set_option maxRecDepth 100000 in
set_option maxHeartbeats 1000000 in
theorem rremove_not (w : World) (B d : Nat) (m : M) (f : Int) (h : Fk w B d m) (ht : there m f ≠ 0) :
    Calls Tryz.prog 77 #[.pointer (some ⟨d, 0, none⟩), .int .i64 f] w (RDid w B d (.int .i64 (there m f)) m) := by
  have con := rthere_ok w B d m f h
  have H := Lib.hid h
  obtain ⟨x, hx⟩ : ∃ x, x = there m f := ⟨_, rfl⟩
  rw [← hx] at ht con ⊢
  have q1 : (x == 0) = false := by simpa using ht
  have q2 : (x != 0) = true := by simpa using ht
  clear h hx ht
  go_enter Tryz.func77, Tryz.ntmps77
  go_wp2_with (first | (go_at_call 102; refine con.mono ?_; rintro e w' ⟨rfl, rfl⟩))
  go_ret
  exact ⟨rfl, H.out, Chg.refl _ _ _⟩
/-- What the sectors have become behind the first j of them. -/
def mapTo (q : Cl → Cl) (l : List Cl) (j : Nat) : List Cl := (l.take j).map q ++ l.drop j
theorem mapTo_at {q : Cl → Cl} {l : List Cl} {j : Nat} {x : Cl} (h : l[j]? = some x) : (mapTo q l j)[j]? = some x := by
  have hj := (List.getElem?_eq_some_iff.1 h).1
  have hl : ((l.take j).map q).length = j := by rw [List.length_map, List.length_take]; omega
  unfold mapTo
  rw [List.getElem?_append_right (by omega), hl, Nat.sub_self, List.getElem?_drop]
  exact h
theorem mapTo_len {q : Cl → Cl} {l : List Cl} {j : Nat} : (mapTo q l j).length = l.length := by
  unfold mapTo
  rw [List.length_append, List.length_map, List.length_take, List.length_drop]
  omega
theorem mapTo_set {q : Cl → Cl} {l : List Cl} {j : Nat} {x : Cl} (h : l[j]? = some x) : (mapTo q l j).set j (q x) = mapTo q l (j + 1) := by
  obtain ⟨hj, rfl⟩ := List.getElem?_eq_some_iff.1 h
  have hl : ((l.take j).map q).length = j := by rw [List.length_map, List.length_take]; omega
  unfold mapTo
  rw [List.set_append_right _ _ (by omega), hl, Nat.sub_self, List.drop_eq_getElem_cons hj, List.set_cons_zero, List.take_succ_eq_append_getElem hj, List.map_append, List.append_assoc]
  rfl
theorem mapTo_same {q : Cl → Cl} {l : List Cl} {j : Nat} {x : Cl} (h : l[j]? = some x) (hq : q x = x) : mapTo q l j = mapTo q l (j + 1) := by
  rw [← mapTo_set h, hq]
  refine List.ext_getElem? fun i => ?_
  rw [List.getElem?_set]
  have h2 := mapTo_at (q := q) h
  split
  · rename_i e
    subst e
    rw [if_pos (List.getElem?_eq_some_iff.1 h2).1, h2]
  · rfl
theorem mapTo_all (q : Cl → Cl) (l : List Cl) : mapTo q l l.length = l.map q := by simp [mapTo]
theorem there_on {m : M} {f : Int} (h : there m f = 0) : m.off = false := by
  unfold there at h
  cases ho : m.off
  · rfl
  · rw [ho] at h; simp at h

set_option maxRecDepth 100000 in
set_option maxHeartbeats 1000000 in
theorem rsync_fails (w : World) (B d : Nat) (m : M) (f : Int) (h : Fk w B d m) (hB : B ≤ w.heap.size) (ht : there m f = 0) (hpl : ∀ k ks, m.plan = some (k, ks) → ks.length ≤ maxLen) (h5 : fails m = true) :
    Calls Tryz.prog 79 #[.pointer (some ⟨d, 0, none⟩), .int .i64 f] w (RDid w B d (.int .i64 8) (stepped m)) := by
  have con := rthere_ok w B d m f h
  have con2 := rfails_ok w B d m h hB (there_on ht) hpl
  rw [ht] at con
  rw [h5] at con2
  clear h hB ht hpl h5
  go_enter Tryz.func79, Tryz.ntmps79
  go_wp2_with (first | (go_at_call 102; refine con.mono ?_; rintro e w' ⟨rfl, rfl⟩) | (go_at_call 53; refine con2.mono ?_; rintro e w' ⟨rfl, h1, h2⟩))
  go_ret
  exact ⟨rfl, h1, h2⟩
set_option maxRecDepth 100000 in
set_option maxHeartbeats 1000000 in
theorem rremove_fails (w : World) (B d : Nat) (m : M) (f : Int) (h : Fk w B d m) (hB : B ≤ w.heap.size) (ht : there m f = 0) (hpl : ∀ k ks, m.plan = some (k, ks) → ks.length ≤ maxLen) (h5 : fails m = true) :
    Calls Tryz.prog 77 #[.pointer (some ⟨d, 0, none⟩), .int .i64 f] w (RDid w B d (.int .i64 8) (stepped m)) := by
  have con := rthere_ok w B d m f h
  have con2 := rfails_ok w B d m h hB (there_on ht) hpl
  rw [ht] at con
  rw [h5] at con2
  clear h hB ht hpl h5
  go_enter Tryz.func77, Tryz.ntmps77
  go_wp2_with (first | (go_at_call 102; refine con.mono ?_; rintro e w' ⟨rfl, rfl⟩) | (go_at_call 53; refine con2.mono ?_; rintro e w' ⟨rfl, h1, h2⟩))
  go_ret
  exact ⟨rfl, h1, h2⟩

set_option maxRecDepth 100000 in
set_option maxHeartbeats 1000000 in
theorem rremove_goes (w : World) (B d : Nat) (m : M) (f : Int) (h : Fk w B d m) (hB : B ≤ w.heap.size) (hi : Inv m) (ht : there m f = 0) (hpl : ∀ k ks, m.plan = some (k, ks) → ks.length ≤ maxLen) (h5 : fails m = false) :
    Calls Tryz.prog 77 #[.pointer (some ⟨d, 0, none⟩), .int .i64 f] w (RDid w B d (.int .i64 0) { stepped m with files := without f m.files, l := dropL f m.l }) := by
  have con := rthere_ok w B d m f h
  have con2 := rfails_ok w B d m h hB (there_on ht) hpl
  rw [ht] at con
  rw [h5] at con2
  have hir := hi.remove f
  rw [remove_goes ht h5] at hir
  have his := hi.stepped
  obtain ⟨e1, e2, e3, e4⟩ := stepped_same h5
  have con3 := fun (w1 : World) (h1 : Fk w1 B d (stepped m)) (hB1 : B ≤ w1.heap.size) => rdrop_ok w1 B d (stepped m) f h1.fu hB1 his.sorted his.few (by have := his.most; have := his.room; omega)
  rw [e1, e2] at con3
  have HIR := Lib.hid hir
  clear h ht hpl h5 hir his e1 e2 e3 e4 hi
  go_enter Tryz.func77, Tryz.ntmps77
  go_wp2_with (first | (go_at_call 102; refine con.mono ?_; rintro e w' ⟨rfl, rfl⟩) | (go_at_call 53; refine con2.mono ?_; rintro e w1 ⟨rfl, h1, h2⟩; have con4 := con3 w1 h1 (Nat.le_trans hB h2.size)) | (go_at_call 103; refine con4.mono ?_; rintro e w2 ⟨rfl, h3, h4⟩))
  go_ret
  exact ⟨rfl, h3.fk HIR.out, h2.trans h4⟩

set_option maxRecDepth 100000 in
set_option maxHeartbeats 2000000 in
theorem rsync_goes (w : World) (B d : Nat) (m : M) (f : Int) (h : Fk w B d m) (hB : B ≤ w.heap.size) (hi : Inv m) (ht : there m f = 0) (hpl : ∀ k ks, m.plan = some (k, ks) → ks.length ≤ maxLen) (h5 : fails m = false) :
    Calls Tryz.prog 79 #[.pointer (some ⟨d, 0, none⟩), .int .i64 f] w (RDid w B d (.int .i64 0) { stepped m with l := syncL f m.l }) := by
  have con := rthere_ok w B d m f h
  have con2 := rfails_ok w B d m h hB (there_on ht) hpl
  rw [ht] at con
  rw [h5] at con2
  have hir := hi.sync f
  rw [sync_goes ht h5] at hir
  obtain ⟨e1, e2, e3, e4⟩ := stepped_same h5
  have hll : m.l.length ≤ 1000 := by have := hi.most; have := hi.room; omega
  have HIR := Lib.hid hir
  have E2 := Lib.hid e2
  clear h ht hpl h5 hir e1 e2 e3 e4 hi
  go_enter Tryz.func79, Tryz.ntmps79
  go_wp2_with (first | (go_at_call 102; refine con.mono ?_; rintro e w' ⟨rfl, rfl⟩) | (go_at_call 53; refine con2.mono ?_; rintro e w1 ⟨rfl, h1, h2⟩))
  obtain ⟨A, c, lv, kv, left, h1⟩ := h1
  obtain ⟨lA, lc, hlv⟩ := h1.row.form
  subst hlv
  obtain ⟨l0, hl0⟩ : ∃ l0, l0 = (stepped m).l := ⟨_, rfl⟩
  have hlen : (stepped m).l.length = m.l.length := by rw [E2.out]
  rw [hlen] at h1
  have hrow0 := h1.row
  rw [← hl0] at hrow0
  have hl0l : l0.length = m.l.length := by rw [hl0, hlen]
  have k2 := h1.cel.cell 2
  have H := Lib.hid h1
  have HL0 := Lib.hid hl0
  have HLL := Lib.hid hl0l
  have HROW0 := Lib.hid hrow0
  have HCH := Lib.hid h2
  clear h1 h2 hl0 hl0l hrow0 hlen
  go_loopw [6] (fun i wr => ∃ j : Nat, j ≤ m.l.length ∧ i = .int .i64 j ∧ Rl wr B (.slice lA m.l.length lc) (mapTo (fun c : Cl => if c.file = f then ⟨c.file, c.b, true⟩ else c) l0 j) ∧ Chg B Rob w1 wr ∧ Cel wr d 38 [.int .i64 (stepped m).room, .slice A (stepped m).files.length c, .slice lA m.l.length lc, .bool (stepped m).off, .bool (stepped m).plan.isSome, .int .i64 left, kv])
    (fun i _ => m.l.length - (Go.RowKit.intOf i).toNat)
  case atStart => exact ⟨0, Nat.zero_le _, rfl, by simpa [mapTo] using HROW0.out, Chg.refl _ _ _, H.out.cel⟩
  case round =>
    obtain ⟨j, hj, rfl, hrl, hch, hcel⟩ := hrel
    have HRL := Lib.hid hrl
    have HCG := Lib.hid hch
    have HCEL := Lib.hid hcel
    have k2' := hcel.cell 2
    clear hrl hch hcel k2
    by_cases hlt : j < m.l.length
    · obtain ⟨x, hx⟩ : ∃ x, l0[j]? = some x := ⟨_, List.getElem?_eq_getElem (by rw [HLL.out]; exact hlt)⟩
      have hmx := mapTo_at (q := (fun c : Cl => if c.file = f then ⟨c.file, c.b, true⟩ else c)) hx
      have hpl : (mapTo (fun c : Cl => if c.file = f then ⟨c.file, c.b, true⟩ else c) l0 j).length = m.l.length := mapTo_len.trans HLL.out
      obtain ⟨g, cap, hv, hgB, hgl⟩ : ∃ g cap, Value.slice lA m.l.length lc = .slice (some ⟨g, 0, none⟩) m.l.length cap ∧ B ≤ g ∧ g < wr.heap.size := by
        rcases HRL.out.cases with ⟨_, e⟩ | ⟨g, cap, e, q1, q2, _⟩
        · rw [e] at hpl; simp at hpl; omega
        · rw [hpl] at e; exact ⟨g, cap, e, q1, q2⟩
      cases hv
      have hr : Rl wr B (.slice (some ⟨g, 0, none⟩) (mapTo (fun c : Cl => if c.file = f then ⟨c.file, c.b, true⟩ else c) l0 j).length lc) (mapTo (fun c : Cl => if c.file = f then ⟨c.file, c.b, true⟩ else c) l0 j) := by rw [hpl]; exact HRL.out
      obtain ⟨q0, q1, q2⟩ := hr.cell hmx
      have hfz := World.ownsRow.frozenAt hr (j * 3 + 2)
      have HHR := Lib.hid hr
      have HMX := Lib.hid hmx
      have HX0 := Lib.hid hx
      have HPL := Lib.hid hpl
      clear hr hmx hx hpl
      by_cases hxf : x.file = f
      · have hq : (x.file == f) = true := by simpa using hxf
        have HXF := Lib.hid hxf
        clear hxf
        obtain ⟨z1, z2⟩ := HHR.out.set HMX.out (by omega : 2 < 3) (.bool true) ((fun c : Cl => if c.file = f then ⟨c.file, c.b, true⟩ else c) x) (by show _ = Cl.cells (if x.file = f then _ else x); rw [if_pos HXF.out]; rfl)
        rw [mapTo_set HX0.out, HPL.out] at z1
        have hch2 : Chg B Rob w1 (wr.setCell ⟨g, j * 3 + 2, none⟩ (.bool true)) := HCG.out.trans (HRL.out.chgd z2)
        have hcel2 := HCEL.out.far (HRL.out.apart HCEL.out) (p := ⟨g, j * 3 + 2, none⟩) (.bool true)
        have Z1 := Lib.hid z1
        have Z2 := Lib.hid hch2
        have Z3 := Lib.hid hcel2
        clear z1 z2 hch2 hcel2
        go_wp2_with fail
        go_roundw
        case rel => exact ⟨j + 1, by omega, by go_num, Z1.out, Z2.out, Z3.out⟩
        case measure => simp [Go.RowKit.intOf]; omega
      · have hq : (x.file == f) = false := by simpa using hxf
        have hm := mapTo_same (q := (fun c : Cl => if c.file = f then ⟨c.file, c.b, true⟩ else c)) HX0.out (if_neg hxf)
        have HM := Lib.hid hm
        clear hm
        go_wp2_with fail
        go_roundw
        case rel => exact ⟨j + 1, by omega, by go_num, by rw [← HM.out]; exact HRL.out, HCG.out, HCEL.out⟩
        case measure => simp [Go.RowKit.intOf]; omega
    · obtain rfl : j = m.l.length := by omega
      go_wp2_with fail
      go_ret
      have hrl := HRL.out
      rw [← HLL.out, mapTo_all, HLL.out, HL0.out, E2.out] at hrl
      have hx : Fv wr B d { stepped m with l := syncL f m.l } A c _ kv left :=
        ⟨HIR.out, HCEL.out, H.out.own, H.out.cap, H.out.files.chg HCG.out (fun _ _ => notRob_int), hrl, fun k ks e => ⟨(H.out.plan k ks e).1, (H.out.plan k ks e).2.chg HCG.out (fun _ _ => notRob_bool)⟩⟩
      exact ⟨rfl, ⟨_, _, _, _, _, hx⟩, HCH.out.trans HCG.out⟩
end Go.Proofs.YtdaknfepcbooeaaGreat.Disk
end

section
namespace Go.Proofs.YtdaknfepcbooeaaGreat.Disk
open Go.RowKit Go.Proofs.YtdaknfepcbooeaaGreat.Ord
set_option linter.unusedVariables false
set_option linter.unusedSimpArgs false

theorem str_size (bs : List (BitVec 8)) : (str bs).size = bs.length := by simp [str, ByteArray.size]
theorem cone (f : Int) (bs : List (BitVec 8)) : ∀ u ∈ Cl.cells ⟨f, bs, false⟩, u.oneCell' = true := by have := cellsL_one [⟨f, bs, false⟩]; simpa [cellsL] using this

set_option maxRecDepth 100000 in
set_option maxHeartbeats 1000000 in
theorem rappend_off (w : World) (B d : Nat) (m : M) (f : Int) (bs : List (BitVec 8)) (h : Fk w B d m) (ho : m.off = true) :
    Calls Tryz.prog 25 #[.pointer (some ⟨d, 0, none⟩), .int .i64 f, .string (str bs)] w (RDid w B d (.int .i64 8) m) := by
  have H := Lib.hid h
  obtain ⟨A, c, lv, kv, left, h⟩ := h
  have k3 := h.cel.cell 3
  rw [ho] at k3
  clear h ho
  go_enter Tryz.func25, Tryz.ntmps25
  go_wp2_with fail
  go_ret
  exact ⟨rfl, H.out, Chg.refl _ _ _⟩
set_option maxRecDepth 100000 in
set_option maxHeartbeats 1000000 in
theorem rappend_arg (w : World) (B d : Nat) (m : M) (f : Int) (bs : List (BitVec 8)) (h : Fk w B d m) (ho : m.off = false) (hn : bs.length ≤ maxLen) (h2 : f < 0 ∨ bs.length ≠ 512) :
    Calls Tryz.prog 25 #[.pointer (some ⟨d, 0, none⟩), .int .i64 f, .string (str bs)] w (RDid w B d (.int .i64 1) m) := by
  have H := Lib.hid h
  obtain ⟨A, c, lv, kv, left, h⟩ := h
  have k3 := h.cel.cell 3
  rw [ho] at k3
  have hss := str_size bs
  unfold maxLen at hn
  clear h ho
  by_cases hf : f < 0
  · clear h2
    go_enter Tryz.func25, Tryz.ntmps25
    go_wp2_with fail
    go_ret
    exact ⟨rfl, H.out, Chg.refl _ _ _⟩
  · have h3 : ((bs.length : Int) == 512) = false := by have := h2.resolve_left hf; simp; omega
    have h4 : ((bs.length : Int) != 512) = true := by have := h2.resolve_left hf; simp; omega
    clear h2
    go_enter Tryz.func25, Tryz.ntmps25
    go_wp2_with fail
    go_ret
    exact ⟨rfl, H.out, Chg.refl _ _ _⟩
set_option maxRecDepth 100000 in
set_option maxHeartbeats 2000000 in
theorem rappend_full (w : World) (B d : Nat) (m : M) (f : Int) (bs : List (BitVec 8)) (h : Fk w B d m) (hB : B ≤ w.heap.size) (ho : m.off = false) (hf : 0 ≤ f ∧ f < 9223372036854775808) (hbs : bs.length = 512) (h3 : m.room ≤ m.l.length) :
    Calls Tryz.prog 25 #[.pointer (some ⟨d, 0, none⟩), .int .i64 f, .string (str bs)] w (RDid w B d (.int .i64 3) (m)) := by
  have H := Lib.hid h
  obtain ⟨A, cf, lv, kv, left, h⟩ := h
  obtain ⟨lA, lc, hlv⟩ := h.row.form
  subst hlv
  have k3 := h.cel.cell 3
  rw [ho] at k3
  have k0V : ∀ V, From w V → V.cell? ⟨d, 0, none⟩ = some (.int .i64 m.room) := fun V hV => (Cel.below h.cel hV h.cel.lt).cell 0
  have k2V : ∀ V, From w V → V.cell? ⟨d, 2, none⟩ = some (.slice lA m.l.length lc) := fun V hV => (Cel.below h.cel hV h.cel.lt).cell 2
  have hroom := h.inv.room
  have hrl := h.inv.rows_le f
  have hmost := h.inv.most
  have hss := (str_size bs).trans hbs
  have HI := Lib.hid h.inv
  have HO := Lib.hid ho
  have HBS := Lib.hid hbs
  clear h ho hbs
  go_enter Tryz.func25, Tryz.ntmps25
  go_wp2_with fail
  clear hss k3
  refine wp_region_held_drew (S := From w) (by kernel_rfl) (From.self _).drew (fun hH => ?_)
  refine wpAnyH_take (i := 0) (v := .pointer (some ⟨d, 0, none⟩)) rfl (by kernel_rfl) (by kernel_rfl) (by kernel_rfl) (fun _ _ _ h => h) (Or.inl ⟨by rfl, ?_⟩) hH ?_
  · intro V hV; go_simp
  try simp only [Act.put, List.setIfInBounds_toArray, List.set_cons_zero, List.set_cons_succ, List.getElem_toArray, List.getElem_cons_succ, List.getElem_cons_zero]
  refine wpAnyH_take (i := 1) (v := .pointer (some ⟨d, 0, none⟩)) rfl (by kernel_rfl) (by kernel_rfl) (by kernel_rfl) (fun _ _ _ h => h) (Or.inl ⟨by rfl, ?_⟩) hH ?_
  · intro V hV; go_simp
  try simp only [Act.put, List.setIfInBounds_toArray, List.set_cons_zero, List.set_cons_succ, List.getElem_toArray, List.getElem_cons_succ, List.getElem_cons_zero]
  refine wpAnyH_take (i := 2) (v := .pointer (some ⟨d, 2, none⟩)) rfl (by kernel_rfl) (by kernel_rfl) (by kernel_rfl) (fun _ _ _ h => h) (Or.inl ⟨by rfl, ?_⟩) hH ?_
  · intro V hV; go_simp
  try simp only [Act.put, List.setIfInBounds_toArray, List.set_cons_zero, List.set_cons_succ, List.getElem_toArray, List.getElem_cons_succ, List.getElem_cons_zero]
  refine wpAnyH_take (i := 3) (v := .slice lA m.l.length lc) rfl (by kernel_rfl) (by kernel_rfl) (by kernel_rfl) (fun _ _ _ h => h) (Or.inl ⟨by rfl, ?_⟩) hH ?_
  · intro V hV; have k := k2V V hV; go_simp
  try simp only [Act.put, List.setIfInBounds_toArray, List.set_cons_zero, List.set_cons_succ, List.getElem_toArray, List.getElem_cons_succ, List.getElem_cons_zero]
  refine wpAnyH_take (i := 4) (v := .int .i64 (m.l.length : Nat)) rfl (by kernel_rfl) (by kernel_rfl) (by kernel_rfl) (fun _ _ _ h => h) (Or.inl ⟨by rfl, ?_⟩) hH ?_
  · intro V hV; go_simp
  try simp only [Act.put, List.setIfInBounds_toArray, List.set_cons_zero, List.set_cons_succ, List.getElem_toArray, List.getElem_cons_succ, List.getElem_cons_zero]
  refine wpAnyH_take (i := 5) (v := .pointer (some ⟨d, 0, none⟩)) rfl (by kernel_rfl) (by kernel_rfl) (by kernel_rfl) (fun _ _ _ h => h) (Or.inl ⟨by rfl, ?_⟩) hH ?_
  · intro V hV; go_simp
  try simp only [Act.put, List.setIfInBounds_toArray, List.set_cons_zero, List.set_cons_succ, List.getElem_toArray, List.getElem_cons_succ, List.getElem_cons_zero]
  refine wpAnyH_take (i := 6) (v := .pointer (some ⟨d, 0, none⟩)) rfl (by kernel_rfl) (by kernel_rfl) (by kernel_rfl) (fun _ _ _ h => h) (Or.inl ⟨by rfl, ?_⟩) hH ?_
  · intro V hV; go_simp
  try simp only [Act.put, List.setIfInBounds_toArray, List.set_cons_zero, List.set_cons_succ, List.getElem_toArray, List.getElem_cons_succ, List.getElem_cons_zero]
  refine wpAnyH_take (i := 7) (v := .pointer (some ⟨d, 0, none⟩)) rfl (by kernel_rfl) (by kernel_rfl) (by kernel_rfl) (fun _ _ _ h => h) (Or.inl ⟨by rfl, ?_⟩) hH ?_
  · intro V hV; go_simp
  try simp only [Act.put, List.setIfInBounds_toArray, List.set_cons_zero, List.set_cons_succ, List.getElem_toArray, List.getElem_cons_succ, List.getElem_cons_zero]
  refine wpAnyH_take (i := 8) (v := .int .i64 m.room) rfl (by kernel_rfl) (by kernel_rfl) (by kernel_rfl) (fun _ _ _ h => h) (Or.inl ⟨by rfl, ?_⟩) hH ?_
  · intro V hV; have k := k0V V hV; go_simp
  try simp only [Act.put, List.setIfInBounds_toArray, List.set_cons_zero, List.set_cons_succ, List.getElem_toArray, List.getElem_cons_succ, List.getElem_cons_zero]
  refine wpAnyH_take (i := 9) (v := .bool true) rfl (by kernel_rfl) (by kernel_rfl) (by kernel_rfl) (fun _ _ _ h => h) (Or.inl ⟨by rfl, ?_⟩) hH ?_
  · intro V hV; go_simp
  try simp only [Act.put, List.setIfInBounds_toArray, List.set_cons_zero, List.set_cons_succ, List.getElem_toArray, List.getElem_cons_succ, List.getElem_cons_zero]
  refine wpAnyH_take (i := 10) (v := .bool true) rfl (by kernel_rfl) (by kernel_rfl) (by kernel_rfl) (fun _ _ _ h => h) (Or.inl ⟨by rfl, ?_⟩) hH ?_
  · intro V hV; go_simp
  try simp only [Act.put, List.setIfInBounds_toArray, List.set_cons_zero, List.set_cons_succ, List.getElem_toArray, List.getElem_cons_succ, List.getElem_cons_zero]
  refine wpAnyH_take (i := 11) (v := undef) rfl (by kernel_rfl) (by kernel_rfl) (by kernel_rfl) (fun _ _ _ h => h) (Or.inr ⟨by rfl, rfl⟩) hH ?_
  try simp only [Act.put, List.setIfInBounds_toArray, List.set_cons_zero, List.set_cons_succ, List.getElem_toArray, List.getElem_cons_succ, List.getElem_cons_zero]
  refine wpAnyH_take (i := 12) (v := undef) rfl (by kernel_rfl) (by kernel_rfl) (by kernel_rfl) (fun _ _ _ h => h) (Or.inr ⟨by rfl, rfl⟩) hH ?_
  try simp only [Act.put, List.setIfInBounds_toArray, List.set_cons_zero, List.set_cons_succ, List.getElem_toArray, List.getElem_cons_succ, List.getElem_cons_zero]
  refine wpAnyH_take (i := 13) (v := undef) rfl (by kernel_rfl) (by kernel_rfl) (by kernel_rfl) (fun _ _ _ h => h) (Or.inr ⟨by rfl, rfl⟩) hH ?_
  try simp only [Act.put, List.setIfInBounds_toArray, List.set_cons_zero, List.set_cons_succ, List.getElem_toArray, List.getElem_cons_succ, List.getElem_cons_zero]
  refine wpAnyH_take (i := 14) (v := undef) rfl (by kernel_rfl) (by kernel_rfl) (by kernel_rfl) (fun _ _ _ h => h) (Or.inr ⟨by rfl, rfl⟩) hH ?_
  try simp only [Act.put, List.setIfInBounds_toArray, List.set_cons_zero, List.set_cons_succ, List.getElem_toArray, List.getElem_cons_succ, List.getElem_cons_zero]
  refine wpAnyH_take (i := 15) (v := undef) rfl (by kernel_rfl) (by kernel_rfl) (by kernel_rfl) (fun _ _ _ h => h) (Or.inr ⟨by rfl, rfl⟩) hH ?_
  try simp only [Act.put, List.setIfInBounds_toArray, List.set_cons_zero, List.set_cons_succ, List.getElem_toArray, List.getElem_cons_succ, List.getElem_cons_zero]
  refine wpAnyH_take (i := 16) (v := .bool true) rfl (by kernel_rfl) (by kernel_rfl) (by kernel_rfl) (fun _ _ _ h => h) (Or.inl ⟨by rfl, ?_⟩) hH ?_
  · intro V hV; go_simp
  try simp only [Act.put, List.setIfInBounds_toArray, List.set_cons_zero, List.set_cons_succ, List.getElem_toArray, List.getElem_cons_succ, List.getElem_cons_zero]
  refine wpAnyH_done (by kernel_rfl) ?_ _
  clear k0V k2V
  go_wp2_with fail
  go_ret
  exact ⟨rfl, H.out.below hH, Chg.of_below hH⟩
set_option maxRecDepth 100000 in
set_option maxHeartbeats 2000000 in
theorem rappend_many (w : World) (B d : Nat) (m : M) (f : Int) (bs : List (BitVec 8)) (h : Fk w B d m) (hB : B ≤ w.heap.size) (ho : m.off = false) (hf : 0 ≤ f ∧ f < 9223372036854775808) (hbs : bs.length = 512) (h3 : ¬ m.room ≤ m.l.length) (h4 : 200 ≤ (rows f m.l).length) :
    Calls Tryz.prog 25 #[.pointer (some ⟨d, 0, none⟩), .int .i64 f, .string (str bs)] w (RDid w B d (.int .i64 3) (m)) := by
  have H := Lib.hid h
  obtain ⟨A, cf, lv, kv, left, h⟩ := h
  obtain ⟨lA, lc, hlv⟩ := h.row.form
  subst hlv
  have k3 := h.cel.cell 3
  rw [ho] at k3
  have k0V : ∀ V, From w V → V.cell? ⟨d, 0, none⟩ = some (.int .i64 m.room) := fun V hV => (Cel.below h.cel hV h.cel.lt).cell 0
  have k2V : ∀ V, From w V → V.cell? ⟨d, 2, none⟩ = some (.slice lA m.l.length lc) := fun V hV => (Cel.below h.cel hV h.cel.lt).cell 2
  have hroom := h.inv.room
  have hrl := h.inv.rows_le f
  have hmost := h.inv.most
  have hss := (str_size bs).trans hbs
  have HI := Lib.hid h.inv
  have HO := Lib.hid ho
  have HBS := Lib.hid hbs
  clear h ho hbs
  go_enter Tryz.func25, Tryz.ntmps25
  go_wp2_with fail
  clear hss k3
  refine wp_region_held_drew (S := From w) (by kernel_rfl) (From.self _).drew (fun hH => ?_)
  refine wpAnyH_take (i := 0) (v := .pointer (some ⟨d, 0, none⟩)) rfl (by kernel_rfl) (by kernel_rfl) (by kernel_rfl) (fun _ _ _ h => h) (Or.inl ⟨by rfl, ?_⟩) hH ?_
  · intro V hV; go_simp
  try simp only [Act.put, List.setIfInBounds_toArray, List.set_cons_zero, List.set_cons_succ, List.getElem_toArray, List.getElem_cons_succ, List.getElem_cons_zero]
  refine wpAnyH_take (i := 1) (v := .pointer (some ⟨d, 0, none⟩)) rfl (by kernel_rfl) (by kernel_rfl) (by kernel_rfl) (fun _ _ _ h => h) (Or.inl ⟨by rfl, ?_⟩) hH ?_
  · intro V hV; go_simp
  try simp only [Act.put, List.setIfInBounds_toArray, List.set_cons_zero, List.set_cons_succ, List.getElem_toArray, List.getElem_cons_succ, List.getElem_cons_zero]
  refine wpAnyH_take (i := 2) (v := .pointer (some ⟨d, 2, none⟩)) rfl (by kernel_rfl) (by kernel_rfl) (by kernel_rfl) (fun _ _ _ h => h) (Or.inl ⟨by rfl, ?_⟩) hH ?_
  · intro V hV; go_simp
  try simp only [Act.put, List.setIfInBounds_toArray, List.set_cons_zero, List.set_cons_succ, List.getElem_toArray, List.getElem_cons_succ, List.getElem_cons_zero]
  refine wpAnyH_take (i := 3) (v := .slice lA m.l.length lc) rfl (by kernel_rfl) (by kernel_rfl) (by kernel_rfl) (fun _ _ _ h => h) (Or.inl ⟨by rfl, ?_⟩) hH ?_
  · intro V hV; have k := k2V V hV; go_simp
  try simp only [Act.put, List.setIfInBounds_toArray, List.set_cons_zero, List.set_cons_succ, List.getElem_toArray, List.getElem_cons_succ, List.getElem_cons_zero]
  refine wpAnyH_take (i := 4) (v := .int .i64 (m.l.length : Nat)) rfl (by kernel_rfl) (by kernel_rfl) (by kernel_rfl) (fun _ _ _ h => h) (Or.inl ⟨by rfl, ?_⟩) hH ?_
  · intro V hV; go_simp
  try simp only [Act.put, List.setIfInBounds_toArray, List.set_cons_zero, List.set_cons_succ, List.getElem_toArray, List.getElem_cons_succ, List.getElem_cons_zero]
  refine wpAnyH_take (i := 5) (v := .pointer (some ⟨d, 0, none⟩)) rfl (by kernel_rfl) (by kernel_rfl) (by kernel_rfl) (fun _ _ _ h => h) (Or.inl ⟨by rfl, ?_⟩) hH ?_
  · intro V hV; go_simp
  try simp only [Act.put, List.setIfInBounds_toArray, List.set_cons_zero, List.set_cons_succ, List.getElem_toArray, List.getElem_cons_succ, List.getElem_cons_zero]
  refine wpAnyH_take (i := 6) (v := .pointer (some ⟨d, 0, none⟩)) rfl (by kernel_rfl) (by kernel_rfl) (by kernel_rfl) (fun _ _ _ h => h) (Or.inl ⟨by rfl, ?_⟩) hH ?_
  · intro V hV; go_simp
  try simp only [Act.put, List.setIfInBounds_toArray, List.set_cons_zero, List.set_cons_succ, List.getElem_toArray, List.getElem_cons_succ, List.getElem_cons_zero]
  refine wpAnyH_take (i := 7) (v := .pointer (some ⟨d, 0, none⟩)) rfl (by kernel_rfl) (by kernel_rfl) (by kernel_rfl) (fun _ _ _ h => h) (Or.inl ⟨by rfl, ?_⟩) hH ?_
  · intro V hV; go_simp
  try simp only [Act.put, List.setIfInBounds_toArray, List.set_cons_zero, List.set_cons_succ, List.getElem_toArray, List.getElem_cons_succ, List.getElem_cons_zero]
  refine wpAnyH_take (i := 8) (v := .int .i64 m.room) rfl (by kernel_rfl) (by kernel_rfl) (by kernel_rfl) (fun _ _ _ h => h) (Or.inl ⟨by rfl, ?_⟩) hH ?_
  · intro V hV; have k := k0V V hV; go_simp
  try simp only [Act.put, List.setIfInBounds_toArray, List.set_cons_zero, List.set_cons_succ, List.getElem_toArray, List.getElem_cons_succ, List.getElem_cons_zero]
  refine wpAnyH_take (i := 9) (v := .bool false) rfl (by kernel_rfl) (by kernel_rfl) (by kernel_rfl) (fun _ _ _ h => h) (Or.inl ⟨by rfl, ?_⟩) hH ?_
  · intro V hV; go_simp
  try simp only [Act.put, List.setIfInBounds_toArray, List.set_cons_zero, List.set_cons_succ, List.getElem_toArray, List.getElem_cons_succ, List.getElem_cons_zero]
  refine wpAnyH_take (i := 10) (v := .bool false) rfl (by kernel_rfl) (by kernel_rfl) (by kernel_rfl) (fun _ _ _ h => h) (Or.inl ⟨by rfl, ?_⟩) hH ?_
  · intro V hV; go_simp
  try simp only [Act.put, List.setIfInBounds_toArray, List.set_cons_zero, List.set_cons_succ, List.getElem_toArray, List.getElem_cons_succ, List.getElem_cons_zero]
  refine wpAnyH_take (i := 11) (v := .pointer (some ⟨d, 0, none⟩)) rfl (by kernel_rfl) (by kernel_rfl) (by kernel_rfl) (fun _ _ _ h => h) (Or.inl ⟨by rfl, ?_⟩) hH ?_
  · intro V hV; go_simp
  try simp only [Act.put, List.setIfInBounds_toArray, List.set_cons_zero, List.set_cons_succ, List.getElem_toArray, List.getElem_cons_succ, List.getElem_cons_zero]
  refine wpAnyH_take (i := 12) (v := .int .i64 f) rfl (by kernel_rfl) (by kernel_rfl) (by kernel_rfl) (fun _ _ _ h => h) (Or.inl ⟨by rfl, ?_⟩) hH ?_
  · intro V hV; go_simp
  try simp only [Act.put, List.setIfInBounds_toArray, List.set_cons_zero, List.set_cons_succ, List.getElem_toArray, List.getElem_cons_succ, List.getElem_cons_zero]
  have con5 := rread_ok w.drew B d m f (H.out.below (Below.refl _ _).drew)
  refine wpAnyH_ready (rs := [13]) (by kernel_rfl) (by simp) (AllReadyH.cons rfl (fun K hK => ?_) AllReadyH.nil)
  go_simp
  refine con5.mono ?_
  rintro r w5 ⟨A5, c5, rfl, ho5, hb5⟩
  go_wp2_with fail
  refine hK.out _ _ (hH.call hb5) (fun hH' => ?_)
  clear hK K hH
  have hH := hH'
  clear hH'
  try simp only [Act.put, List.setIfInBounds_toArray, List.set_cons_zero, List.set_cons_succ, List.getElem_toArray, List.getElem_cons_succ, List.getElem_cons_zero]
  clear con5 ho5
  refine wpAnyH_take (i := 14) (v := .int .i64 ((rows f m.l).length : Nat)) rfl (by kernel_rfl) (by kernel_rfl) (by kernel_rfl) (fun _ _ _ h => h) (Or.inl ⟨by rfl, ?_⟩) hH ?_
  · intro V hV; go_simp
  try simp only [Act.put, List.setIfInBounds_toArray, List.set_cons_zero, List.set_cons_succ, List.getElem_toArray, List.getElem_cons_succ, List.getElem_cons_zero]
  refine wpAnyH_take (i := 15) (v := .bool true) rfl (by kernel_rfl) (by kernel_rfl) (by kernel_rfl) (fun _ _ _ h => h) (Or.inl ⟨by rfl, ?_⟩) hH ?_
  · intro V hV; have k15 : (200 : Int) ≤ (rows f m.l).length := (by omega); go_simp
  try simp only [Act.put, List.setIfInBounds_toArray, List.set_cons_zero, List.set_cons_succ, List.getElem_toArray, List.getElem_cons_succ, List.getElem_cons_zero]
  refine wpAnyH_take (i := 16) (v := .bool true) rfl (by kernel_rfl) (by kernel_rfl) (by kernel_rfl) (fun _ _ _ h => h) (Or.inl ⟨by rfl, ?_⟩) hH ?_
  · intro V hV; go_simp
  try simp only [Act.put, List.setIfInBounds_toArray, List.set_cons_zero, List.set_cons_succ, List.getElem_toArray, List.getElem_cons_succ, List.getElem_cons_zero]
  refine wpAnyH_done (by kernel_rfl) ?_ _
  clear k0V k2V
  go_wp2_with fail
  go_ret
  exact ⟨rfl, H.out.below hH, Chg.of_below hH⟩
set_option maxRecDepth 100000 in
set_option maxHeartbeats 2000000 in
theorem rappend_fails (w : World) (B d : Nat) (m : M) (f : Int) (bs : List (BitVec 8)) (h : Fk w B d m) (hB : B ≤ w.heap.size) (ho : m.off = false) (hf : 0 ≤ f ∧ f < 9223372036854775808) (hbs : bs.length = 512) (h3 : ¬ m.room ≤ m.l.length) (h4 : ¬ 200 ≤ (rows f m.l).length) (hpl : ∀ k ks, m.plan = some (k, ks) → ks.length ≤ maxLen) (h5 : fails m = true) :
    Calls Tryz.prog 25 #[.pointer (some ⟨d, 0, none⟩), .int .i64 f, .string (str bs)] w (RDid w B d (.int .i64 8) (stepped m)) := by
  have H := Lib.hid h
  obtain ⟨A, cf, lv, kv, left, h⟩ := h
  obtain ⟨lA, lc, hlv⟩ := h.row.form
  subst hlv
  have k3 := h.cel.cell 3
  rw [ho] at k3
  have k0V : ∀ V, From w V → V.cell? ⟨d, 0, none⟩ = some (.int .i64 m.room) := fun V hV => (Cel.below h.cel hV h.cel.lt).cell 0
  have k2V : ∀ V, From w V → V.cell? ⟨d, 2, none⟩ = some (.slice lA m.l.length lc) := fun V hV => (Cel.below h.cel hV h.cel.lt).cell 2
  have hroom := h.inv.room
  have hrl := h.inv.rows_le f
  have hmost := h.inv.most
  have hss := (str_size bs).trans hbs
  have HI := Lib.hid h.inv
  have HO := Lib.hid ho
  have HBS := Lib.hid hbs
  clear h ho hbs
  go_enter Tryz.func25, Tryz.ntmps25
  go_wp2_with fail
  clear hss k3
  refine wp_region_held_drew (S := From w) (by kernel_rfl) (From.self _).drew (fun hH => ?_)
  refine wpAnyH_take (i := 0) (v := .pointer (some ⟨d, 0, none⟩)) rfl (by kernel_rfl) (by kernel_rfl) (by kernel_rfl) (fun _ _ _ h => h) (Or.inl ⟨by rfl, ?_⟩) hH ?_
  · intro V hV; go_simp
  try simp only [Act.put, List.setIfInBounds_toArray, List.set_cons_zero, List.set_cons_succ, List.getElem_toArray, List.getElem_cons_succ, List.getElem_cons_zero]
  refine wpAnyH_take (i := 1) (v := .pointer (some ⟨d, 0, none⟩)) rfl (by kernel_rfl) (by kernel_rfl) (by kernel_rfl) (fun _ _ _ h => h) (Or.inl ⟨by rfl, ?_⟩) hH ?_
  · intro V hV; go_simp
  try simp only [Act.put, List.setIfInBounds_toArray, List.set_cons_zero, List.set_cons_succ, List.getElem_toArray, List.getElem_cons_succ, List.getElem_cons_zero]
  refine wpAnyH_take (i := 2) (v := .pointer (some ⟨d, 2, none⟩)) rfl (by kernel_rfl) (by kernel_rfl) (by kernel_rfl) (fun _ _ _ h => h) (Or.inl ⟨by rfl, ?_⟩) hH ?_
  · intro V hV; go_simp
  try simp only [Act.put, List.setIfInBounds_toArray, List.set_cons_zero, List.set_cons_succ, List.getElem_toArray, List.getElem_cons_succ, List.getElem_cons_zero]
  refine wpAnyH_take (i := 3) (v := .slice lA m.l.length lc) rfl (by kernel_rfl) (by kernel_rfl) (by kernel_rfl) (fun _ _ _ h => h) (Or.inl ⟨by rfl, ?_⟩) hH ?_
  · intro V hV; have k := k2V V hV; go_simp
  try simp only [Act.put, List.setIfInBounds_toArray, List.set_cons_zero, List.set_cons_succ, List.getElem_toArray, List.getElem_cons_succ, List.getElem_cons_zero]
  refine wpAnyH_take (i := 4) (v := .int .i64 (m.l.length : Nat)) rfl (by kernel_rfl) (by kernel_rfl) (by kernel_rfl) (fun _ _ _ h => h) (Or.inl ⟨by rfl, ?_⟩) hH ?_
  · intro V hV; go_simp
  try simp only [Act.put, List.setIfInBounds_toArray, List.set_cons_zero, List.set_cons_succ, List.getElem_toArray, List.getElem_cons_succ, List.getElem_cons_zero]
  refine wpAnyH_take (i := 5) (v := .pointer (some ⟨d, 0, none⟩)) rfl (by kernel_rfl) (by kernel_rfl) (by kernel_rfl) (fun _ _ _ h => h) (Or.inl ⟨by rfl, ?_⟩) hH ?_
  · intro V hV; go_simp
  try simp only [Act.put, List.setIfInBounds_toArray, List.set_cons_zero, List.set_cons_succ, List.getElem_toArray, List.getElem_cons_succ, List.getElem_cons_zero]
  refine wpAnyH_take (i := 6) (v := .pointer (some ⟨d, 0, none⟩)) rfl (by kernel_rfl) (by kernel_rfl) (by kernel_rfl) (fun _ _ _ h => h) (Or.inl ⟨by rfl, ?_⟩) hH ?_
  · intro V hV; go_simp
  try simp only [Act.put, List.setIfInBounds_toArray, List.set_cons_zero, List.set_cons_succ, List.getElem_toArray, List.getElem_cons_succ, List.getElem_cons_zero]
  refine wpAnyH_take (i := 7) (v := .pointer (some ⟨d, 0, none⟩)) rfl (by kernel_rfl) (by kernel_rfl) (by kernel_rfl) (fun _ _ _ h => h) (Or.inl ⟨by rfl, ?_⟩) hH ?_
  · intro V hV; go_simp
  try simp only [Act.put, List.setIfInBounds_toArray, List.set_cons_zero, List.set_cons_succ, List.getElem_toArray, List.getElem_cons_succ, List.getElem_cons_zero]
  refine wpAnyH_take (i := 8) (v := .int .i64 m.room) rfl (by kernel_rfl) (by kernel_rfl) (by kernel_rfl) (fun _ _ _ h => h) (Or.inl ⟨by rfl, ?_⟩) hH ?_
  · intro V hV; have k := k0V V hV; go_simp
  try simp only [Act.put, List.setIfInBounds_toArray, List.set_cons_zero, List.set_cons_succ, List.getElem_toArray, List.getElem_cons_succ, List.getElem_cons_zero]
  refine wpAnyH_take (i := 9) (v := .bool false) rfl (by kernel_rfl) (by kernel_rfl) (by kernel_rfl) (fun _ _ _ h => h) (Or.inl ⟨by rfl, ?_⟩) hH ?_
  · intro V hV; go_simp
  try simp only [Act.put, List.setIfInBounds_toArray, List.set_cons_zero, List.set_cons_succ, List.getElem_toArray, List.getElem_cons_succ, List.getElem_cons_zero]
  refine wpAnyH_take (i := 10) (v := .bool false) rfl (by kernel_rfl) (by kernel_rfl) (by kernel_rfl) (fun _ _ _ h => h) (Or.inl ⟨by rfl, ?_⟩) hH ?_
  · intro V hV; go_simp
  try simp only [Act.put, List.setIfInBounds_toArray, List.set_cons_zero, List.set_cons_succ, List.getElem_toArray, List.getElem_cons_succ, List.getElem_cons_zero]
  refine wpAnyH_take (i := 11) (v := .pointer (some ⟨d, 0, none⟩)) rfl (by kernel_rfl) (by kernel_rfl) (by kernel_rfl) (fun _ _ _ h => h) (Or.inl ⟨by rfl, ?_⟩) hH ?_
  · intro V hV; go_simp
  try simp only [Act.put, List.setIfInBounds_toArray, List.set_cons_zero, List.set_cons_succ, List.getElem_toArray, List.getElem_cons_succ, List.getElem_cons_zero]
  refine wpAnyH_take (i := 12) (v := .int .i64 f) rfl (by kernel_rfl) (by kernel_rfl) (by kernel_rfl) (fun _ _ _ h => h) (Or.inl ⟨by rfl, ?_⟩) hH ?_
  · intro V hV; go_simp
  try simp only [Act.put, List.setIfInBounds_toArray, List.set_cons_zero, List.set_cons_succ, List.getElem_toArray, List.getElem_cons_succ, List.getElem_cons_zero]
  have con5 := rread_ok w.drew B d m f (H.out.below (Below.refl _ _).drew)
  refine wpAnyH_ready (rs := [13]) (by kernel_rfl) (by simp) (AllReadyH.cons rfl (fun K hK => ?_) AllReadyH.nil)
  go_simp
  refine con5.mono ?_
  rintro r w5 ⟨A5, c5, rfl, ho5, hb5⟩
  go_wp2_with fail
  refine hK.out _ _ (hH.call hb5) (fun hH' => ?_)
  clear hK K hH
  have hH := hH'
  clear hH'
  try simp only [Act.put, List.setIfInBounds_toArray, List.set_cons_zero, List.set_cons_succ, List.getElem_toArray, List.getElem_cons_succ, List.getElem_cons_zero]
  clear con5 ho5
  refine wpAnyH_take (i := 14) (v := .int .i64 ((rows f m.l).length : Nat)) rfl (by kernel_rfl) (by kernel_rfl) (by kernel_rfl) (fun _ _ _ h => h) (Or.inl ⟨by rfl, ?_⟩) hH ?_
  · intro V hV; go_simp
  try simp only [Act.put, List.setIfInBounds_toArray, List.set_cons_zero, List.set_cons_succ, List.getElem_toArray, List.getElem_cons_succ, List.getElem_cons_zero]
  refine wpAnyH_take (i := 15) (v := .bool false) rfl (by kernel_rfl) (by kernel_rfl) (by kernel_rfl) (fun _ _ _ h => h) (Or.inl ⟨by rfl, ?_⟩) hH ?_
  · intro V hV; have k15 : ((rows f m.l).length : Int) < 200 := (by omega); go_simp
  try simp only [Act.put, List.setIfInBounds_toArray, List.set_cons_zero, List.set_cons_succ, List.getElem_toArray, List.getElem_cons_succ, List.getElem_cons_zero]
  refine wpAnyH_take (i := 16) (v := .bool false) rfl (by kernel_rfl) (by kernel_rfl) (by kernel_rfl) (fun _ _ _ h => h) (Or.inl ⟨by rfl, ?_⟩) hH ?_
  · intro V hV; go_simp
  try simp only [Act.put, List.setIfInBounds_toArray, List.set_cons_zero, List.set_cons_succ, List.getElem_toArray, List.getElem_cons_succ, List.getElem_cons_zero]
  refine wpAnyH_done (by kernel_rfl) ?_ _
  clear k0V k2V
  have hB5 : B ≤ w5.heap.size := Nat.le_trans hB hH.size
  have con2 := rfails_ok w5 B d m (H.out.below hH) hB5 HO.out hpl
  rw [h5] at con2
  have HH := Lib.hid hH
  clear hpl h5 hH hb5
  go_wp2_with (first | (go_at_call 53; refine con2.mono ?_; rintro e w6 ⟨rfl, h6, hc6⟩))
  go_ret
  exact ⟨rfl, h6, (Chg.of_below HH.out).trans hc6⟩
set_option maxRecDepth 100000 in
set_option maxHeartbeats 2000000 in
theorem rappend_goes (w : World) (B d : Nat) (m : M) (f : Int) (bs : List (BitVec 8)) (h : Fk w B d m) (hB : B ≤ w.heap.size) (ho : m.off = false) (hf : 0 ≤ f ∧ f < 9223372036854775808) (hbs : bs.length = 512) (h3 : ¬ m.room ≤ m.l.length) (h4 : ¬ 200 ≤ (rows f m.l).length) (hpl : ∀ k ks, m.plan = some (k, ks) → ks.length ≤ maxLen) (h5 : fails m = false) :
    Calls Tryz.prog 25 #[.pointer (some ⟨d, 0, none⟩), .int .i64 f, .string (str bs)] w (RDid w B d (.int .i64 0) ({ stepped m with files := add f m.files, l := m.l ++ [⟨f, bs, false⟩] })) := by
  have H := Lib.hid h
  obtain ⟨A, cf, lv, kv, left, h⟩ := h
  obtain ⟨lA, lc, hlv⟩ := h.row.form
  subst hlv
  have k3 := h.cel.cell 3
  rw [ho] at k3
  have k0V : ∀ V, From w V → V.cell? ⟨d, 0, none⟩ = some (.int .i64 m.room) := fun V hV => (Cel.below h.cel hV h.cel.lt).cell 0
  have k2V : ∀ V, From w V → V.cell? ⟨d, 2, none⟩ = some (.slice lA m.l.length lc) := fun V hV => (Cel.below h.cel hV h.cel.lt).cell 2
  have hroom := h.inv.room
  have hrl := h.inv.rows_le f
  have hmost := h.inv.most
  have hss := (str_size bs).trans hbs
  have HI := Lib.hid h.inv
  have hi : Inv { stepped m with files := add f m.files, l := m.l ++ [⟨f, bs, false⟩] } := by
    have := h.inv.append f hf.2 bs
    rw [append_ok ho (by rintro (h | h); omega; exact h hbs) (by rintro (h | h); exact h3 h; exact h4 h) h5] at this
    exact this
  have HIN := Lib.hid hi
  clear hi
  obtain ⟨e1, e2, e3, e4⟩ := stepped_same h5
  have his := h.inv.stepped
  have HO := Lib.hid ho
  have HBS := Lib.hid hbs
  clear h ho hbs
  go_enter Tryz.func25, Tryz.ntmps25
  go_wp2_with fail
  clear hss k3
  refine wp_region_held_drew (S := From w) (by kernel_rfl) (From.self _).drew (fun hH => ?_)
  refine wpAnyH_take (i := 0) (v := .pointer (some ⟨d, 0, none⟩)) rfl (by kernel_rfl) (by kernel_rfl) (by kernel_rfl) (fun _ _ _ h => h) (Or.inl ⟨by rfl, ?_⟩) hH ?_
  · intro V hV; go_simp
  try simp only [Act.put, List.setIfInBounds_toArray, List.set_cons_zero, List.set_cons_succ, List.getElem_toArray, List.getElem_cons_succ, List.getElem_cons_zero]
  refine wpAnyH_take (i := 1) (v := .pointer (some ⟨d, 0, none⟩)) rfl (by kernel_rfl) (by kernel_rfl) (by kernel_rfl) (fun _ _ _ h => h) (Or.inl ⟨by rfl, ?_⟩) hH ?_
  · intro V hV; go_simp
  try simp only [Act.put, List.setIfInBounds_toArray, List.set_cons_zero, List.set_cons_succ, List.getElem_toArray, List.getElem_cons_succ, List.getElem_cons_zero]
  refine wpAnyH_take (i := 2) (v := .pointer (some ⟨d, 2, none⟩)) rfl (by kernel_rfl) (by kernel_rfl) (by kernel_rfl) (fun _ _ _ h => h) (Or.inl ⟨by rfl, ?_⟩) hH ?_
  · intro V hV; go_simp
  try simp only [Act.put, List.setIfInBounds_toArray, List.set_cons_zero, List.set_cons_succ, List.getElem_toArray, List.getElem_cons_succ, List.getElem_cons_zero]
  refine wpAnyH_take (i := 3) (v := .slice lA m.l.length lc) rfl (by kernel_rfl) (by kernel_rfl) (by kernel_rfl) (fun _ _ _ h => h) (Or.inl ⟨by rfl, ?_⟩) hH ?_
  · intro V hV; have k := k2V V hV; go_simp
  try simp only [Act.put, List.setIfInBounds_toArray, List.set_cons_zero, List.set_cons_succ, List.getElem_toArray, List.getElem_cons_succ, List.getElem_cons_zero]
  refine wpAnyH_take (i := 4) (v := .int .i64 (m.l.length : Nat)) rfl (by kernel_rfl) (by kernel_rfl) (by kernel_rfl) (fun _ _ _ h => h) (Or.inl ⟨by rfl, ?_⟩) hH ?_
  · intro V hV; go_simp
  try simp only [Act.put, List.setIfInBounds_toArray, List.set_cons_zero, List.set_cons_succ, List.getElem_toArray, List.getElem_cons_succ, List.getElem_cons_zero]
  refine wpAnyH_take (i := 5) (v := .pointer (some ⟨d, 0, none⟩)) rfl (by kernel_rfl) (by kernel_rfl) (by kernel_rfl) (fun _ _ _ h => h) (Or.inl ⟨by rfl, ?_⟩) hH ?_
  · intro V hV; go_simp
  try simp only [Act.put, List.setIfInBounds_toArray, List.set_cons_zero, List.set_cons_succ, List.getElem_toArray, List.getElem_cons_succ, List.getElem_cons_zero]
  refine wpAnyH_take (i := 6) (v := .pointer (some ⟨d, 0, none⟩)) rfl (by kernel_rfl) (by kernel_rfl) (by kernel_rfl) (fun _ _ _ h => h) (Or.inl ⟨by rfl, ?_⟩) hH ?_
  · intro V hV; go_simp
  try simp only [Act.put, List.setIfInBounds_toArray, List.set_cons_zero, List.set_cons_succ, List.getElem_toArray, List.getElem_cons_succ, List.getElem_cons_zero]
  refine wpAnyH_take (i := 7) (v := .pointer (some ⟨d, 0, none⟩)) rfl (by kernel_rfl) (by kernel_rfl) (by kernel_rfl) (fun _ _ _ h => h) (Or.inl ⟨by rfl, ?_⟩) hH ?_
  · intro V hV; go_simp
  try simp only [Act.put, List.setIfInBounds_toArray, List.set_cons_zero, List.set_cons_succ, List.getElem_toArray, List.getElem_cons_succ, List.getElem_cons_zero]
  refine wpAnyH_take (i := 8) (v := .int .i64 m.room) rfl (by kernel_rfl) (by kernel_rfl) (by kernel_rfl) (fun _ _ _ h => h) (Or.inl ⟨by rfl, ?_⟩) hH ?_
  · intro V hV; have k := k0V V hV; go_simp
  try simp only [Act.put, List.setIfInBounds_toArray, List.set_cons_zero, List.set_cons_succ, List.getElem_toArray, List.getElem_cons_succ, List.getElem_cons_zero]
  refine wpAnyH_take (i := 9) (v := .bool false) rfl (by kernel_rfl) (by kernel_rfl) (by kernel_rfl) (fun _ _ _ h => h) (Or.inl ⟨by rfl, ?_⟩) hH ?_
  · intro V hV; go_simp
  try simp only [Act.put, List.setIfInBounds_toArray, List.set_cons_zero, List.set_cons_succ, List.getElem_toArray, List.getElem_cons_succ, List.getElem_cons_zero]
  refine wpAnyH_take (i := 10) (v := .bool false) rfl (by kernel_rfl) (by kernel_rfl) (by kernel_rfl) (fun _ _ _ h => h) (Or.inl ⟨by rfl, ?_⟩) hH ?_
  · intro V hV; go_simp
  try simp only [Act.put, List.setIfInBounds_toArray, List.set_cons_zero, List.set_cons_succ, List.getElem_toArray, List.getElem_cons_succ, List.getElem_cons_zero]
  refine wpAnyH_take (i := 11) (v := .pointer (some ⟨d, 0, none⟩)) rfl (by kernel_rfl) (by kernel_rfl) (by kernel_rfl) (fun _ _ _ h => h) (Or.inl ⟨by rfl, ?_⟩) hH ?_
  · intro V hV; go_simp
  try simp only [Act.put, List.setIfInBounds_toArray, List.set_cons_zero, List.set_cons_succ, List.getElem_toArray, List.getElem_cons_succ, List.getElem_cons_zero]
  refine wpAnyH_take (i := 12) (v := .int .i64 f) rfl (by kernel_rfl) (by kernel_rfl) (by kernel_rfl) (fun _ _ _ h => h) (Or.inl ⟨by rfl, ?_⟩) hH ?_
  · intro V hV; go_simp
  try simp only [Act.put, List.setIfInBounds_toArray, List.set_cons_zero, List.set_cons_succ, List.getElem_toArray, List.getElem_cons_succ, List.getElem_cons_zero]
  have con5 := rread_ok w.drew B d m f (H.out.below (Below.refl _ _).drew)
  refine wpAnyH_ready (rs := [13]) (by kernel_rfl) (by simp) (AllReadyH.cons rfl (fun K hK => ?_) AllReadyH.nil)
  go_simp
  refine con5.mono ?_
  rintro r w5 ⟨A5, c5, rfl, ho5, hb5⟩
  go_wp2_with fail
  refine hK.out _ _ (hH.call hb5) (fun hH' => ?_)
  clear hK K hH
  have hH := hH'
  clear hH'
  try simp only [Act.put, List.setIfInBounds_toArray, List.set_cons_zero, List.set_cons_succ, List.getElem_toArray, List.getElem_cons_succ, List.getElem_cons_zero]
  clear con5 ho5
  refine wpAnyH_take (i := 14) (v := .int .i64 ((rows f m.l).length : Nat)) rfl (by kernel_rfl) (by kernel_rfl) (by kernel_rfl) (fun _ _ _ h => h) (Or.inl ⟨by rfl, ?_⟩) hH ?_
  · intro V hV; go_simp
  try simp only [Act.put, List.setIfInBounds_toArray, List.set_cons_zero, List.set_cons_succ, List.getElem_toArray, List.getElem_cons_succ, List.getElem_cons_zero]
  refine wpAnyH_take (i := 15) (v := .bool false) rfl (by kernel_rfl) (by kernel_rfl) (by kernel_rfl) (fun _ _ _ h => h) (Or.inl ⟨by rfl, ?_⟩) hH ?_
  · intro V hV; have k15 : ((rows f m.l).length : Int) < 200 := (by omega); go_simp
  try simp only [Act.put, List.setIfInBounds_toArray, List.set_cons_zero, List.set_cons_succ, List.getElem_toArray, List.getElem_cons_succ, List.getElem_cons_zero]
  refine wpAnyH_take (i := 16) (v := .bool false) rfl (by kernel_rfl) (by kernel_rfl) (by kernel_rfl) (fun _ _ _ h => h) (Or.inl ⟨by rfl, ?_⟩) hH ?_
  · intro V hV; go_simp
  try simp only [Act.put, List.setIfInBounds_toArray, List.set_cons_zero, List.set_cons_succ, List.getElem_toArray, List.getElem_cons_succ, List.getElem_cons_zero]
  refine wpAnyH_done (by kernel_rfl) ?_ _
  have E1 := Lib.hid e1
  have E2 := Lib.hid e2
  have HIS := Lib.hid his
  clear e1 e2 e3 e4 his
  clear k0V k2V
  have hB5 : B ≤ w5.heap.size := Nat.le_trans hB hH.size
  have con2 := rfails_ok w5 B d m (H.out.below hH) hB5 HO.out hpl
  rw [h5] at con2
  have HH := Lib.hid hH
  clear hpl h5 hH hb5
  go_wp2_with fail
  refine con2.mono ?_
  clear con2
  rintro e w6 ⟨rfl, h6, hc6⟩
  have con3 := radd_ok w6 B d (stepped m) f h6.fu HIS.out.sorted HIS.out.few
  have HC6 := Lib.hid hc6
  clear h6 hc6
  go_wp2_with fail
  refine con3.mono ?_
  clear con3
  rintro e w7 ⟨rfl, h7, hc7⟩
  obtain ⟨A7, cf7, lv7, kv7, left7, h7⟩ := h7
  have hrow7 : Rl w7 B lv7 m.l := by have := h7.row; dsimp only at this; rw [E2.out] at this; exact this
  obtain ⟨A7l, c7l, hlv7⟩ := hrow7.form
  subst hlv7
  have hc7' := h7.cel
  have H7 := Lib.hid h7
  have HC7 := Lib.hid hc7'
  have HG7 := Lib.hid hc7
  have o0 : (w7.alloc (.cells #[] 85)).ownsRow w7.heap.size 85 3 (.slice (some ⟨w7.heap.size, 0, none⟩) 0 0) 0 [] := World.ownsRow_lit w7 #[] 0 (Nat.le_refl _) (Nat.zero_le _) rfl
  have s0 : Src (w7.alloc (.cells #[] 85)) A7l m.l.length (cellsL m.l) := by
    have hr : Rl (w7.alloc (.cells #[] 85)) B (.slice A7l m.l.length c7l) m.l := World.ownsRow.alloc hrow7 _
    exact hr.src
  have k72 : (w7.alloc (.cells #[] 85)).cell? ⟨d, 2, none⟩ = some (.slice A7l m.l.length c7l) := (Cel.alloc hc7' _).cell 2
  have O0 := Lib.hid o0
  have S0 := Lib.hid s0
  clear o0 s0 hc7' h7 hc7 hrow7
  go_wp2_with (first | (at_builtin; refine wpList_append_any _ rfl (.tmp 41) (.tmp 45) 35 rfl w7.heap.size 85 cellsT _ 0 [] rfl O0.out A7l m.l.length c7l (cellsL m.l) rfl (cellsL_len _) S0.out (cellsL_one _) m.l.length _ (Nat.zero_add _) (List.nil_append _) (by unfold maxLen; omega) (by omega) (by simp) ?_; intro A8 c8 w8 o8 g8 _; have hb8 : Below w7.heap.size w7 w8 := ((Below.refl _ _).alloc (Nat.le_refl _) _).grown g8 (by simp) (by intro q hq; cases hq; exact Nat.le_refl _); have B8 := Lib.hid hb8; have O8 := Lib.hid o8; have h8z := hb8.size; clear hb8 o8 g8) | (at_builtin; refine wpList_append_any _ rfl (.tmp 46) (.tmp 50) 35 rfl w7.heap.size 85 cellsT _ m.l.length _ rfl (World.ownsRow.alloc O8.out _) (some ⟨w8.heap.size, 0, none⟩) 1 1 (Cl.cells ⟨f, bs, false⟩) rfl rfl (src_new3 w8 85 (.int .i64 f) (.string (str bs)) (.bool false)) (cone f bs) (m.l.length + 1) _ rfl rfl (by unfold maxLen; omega) (by omega) (by simp; omega) ?_; intro A9 c9 w9 o9 g9 _; have hb9 : Below w7.heap.size w7 w9 := (B8.out.alloc B8.out.size _).grown g9 (by simp; omega) (fun q hq => (World.ownsRow.lt O8.out q hq).1); have B9 := Lib.hid hb9; have O9 := Lib.hid o9; have k92 := (Cel.below HC7.out hb9 HC7.out.lt).cell 2; have f92 := (Cel.below HC7.out hb9 HC7.out.lt).free 2; clear hb9 o9 g9))
  go_ret
  have hrl9 : Rl w9 w7.heap.size (.slice A9 (m.l.length + 1) c9) (m.l ++ [⟨f, bs, false⟩]) := by
    unfold Rl
    rw [List.length_append, cellsL_app]
    exact O9.out
  have hB7 : B ≤ w7.heap.size := Nat.le_trans (Nat.le_trans hB5 HC6.out.size) HG7.out.size
  obtain ⟨q1, q2⟩ := H7.out.setRow B9.out _ _ (ownsRow_base_a hrl9 hB7 : Rl w9 B _ _)
  have q3 : Fu (w9.setCell ⟨d, 2, none⟩ (.slice A9 (m.l.length + 1) c9)) B d { stepped m with files := add f m.files, l := m.l ++ [⟨f, bs, false⟩] } := ⟨_, _, _, _, _, by rw [← E1.out]; exact q1⟩
  exact ⟨rfl, q3.fk HIN.out, ((((Chg.of_below HH.out).trans HC6.out).trans HG7.out)).trans q2⟩
theorem rappend_ok (w : World) (B d : Nat) (m : M) (f : Int) (bs : List (BitVec 8)) (h : Fk w B d m) (hB : B ≤ w.heap.size) (hf : f < 9223372036854775808) (hbl : bs.length ≤ maxLen) (hpl : ∀ k ks, m.plan = some (k, ks) → ks.length ≤ maxLen) :
    Calls Tryz.prog 25 #[.pointer (some ⟨d, 0, none⟩), .int .i64 f, .string (str bs)] w (RDid w B d (.int .i64 (append m f bs).1) (append m f bs).2) := by
  cases ho : m.off
  · by_cases h2 : f < 0 ∨ bs.length ≠ 512
    · rw [append_arg ho h2]
      exact rappend_arg w B d m f bs h ho hbl h2
    · have hf2 : 0 ≤ f ∧ f < 9223372036854775808 := ⟨by omega, hf⟩
      have hbs : bs.length = 512 := by omega
      by_cases h3 : m.room ≤ m.l.length
      · rw [append_full ho h2 (.inl h3)]
        exact rappend_full w B d m f bs h hB ho hf2 hbs h3
      · by_cases h4 : 200 ≤ (rows f m.l).length
        · rw [append_full ho h2 (.inr h4)]
          exact rappend_many w B d m f bs h hB ho hf2 hbs h3 h4
        · have h34 : ¬ (m.room ≤ m.l.length ∨ 200 ≤ (rows f m.l).length) := by rintro (h | h); exact h3 h; exact h4 h
          cases h5 : fails m
          · rw [append_ok ho h2 h34 h5]
            exact rappend_goes w B d m f bs h hB ho hf2 hbs h3 h4 hpl h5
          · rw [append_fails ho h2 h34 h5]
            exact rappend_fails w B d m f bs h hB ho hf2 hbs h3 h4 hpl h5
  · rw [append_off ho]
    exact rappend_off w B d m f bs h ho
end Go.Proofs.YtdaknfepcbooeaaGreat.Disk
end

section
namespace Go.Proofs.YtdaknfepcbooeaaGreat.Disk
open Go.RowKit Go.Proofs.YtdaknfepcbooeaaGreat.Ord
set_option linter.unusedVariables false
set_option linter.unusedSimpArgs false

set_option maxRecDepth 100000 in
set_option maxHeartbeats 1000000 in
theorem rrename_not (w : World) (B d : Nat) (m : M) (f t : Int) (h : Fk w B d m) (ht : there m f ≠ 0) :
    Calls Tryz.prog 80 #[.pointer (some ⟨d, 0, none⟩), .int .i64 f, .int .i64 t] w (RDid w B d (.int .i64 (there m f)) m) := by
  have con := rthere_ok w B d m f h
  have H := Lib.hid h
  obtain ⟨x, hx⟩ : ∃ x, x = there m f := ⟨_, rfl⟩
  rw [← hx] at ht con ⊢
  have q1 : (x == 0) = false := by simpa using ht
  have q2 : (x != 0) = true := by simpa using ht
  clear h hx ht
  go_enter Tryz.func80, Tryz.ntmps80
  go_wp2_with (first | (go_at_call 102; refine con.mono ?_; rintro e w' ⟨rfl, rfl⟩))
  go_ret
  exact ⟨rfl, H.out, Chg.refl _ _ _⟩
set_option maxRecDepth 100000 in
set_option maxHeartbeats 1000000 in
theorem rrename_arg (w : World) (B d : Nat) (m : M) (f t : Int) (h : Fk w B d m) (ht : there m f = 0) (ht0 : t < 0) :
    Calls Tryz.prog 80 #[.pointer (some ⟨d, 0, none⟩), .int .i64 f, .int .i64 t] w (RDid w B d (.int .i64 1) m) := by
  have con := rthere_ok w B d m f h
  have H := Lib.hid h
  rw [ht] at con
  clear h ht
  go_enter Tryz.func80, Tryz.ntmps80
  go_wp2_with (first | (go_at_call 102; refine con.mono ?_; rintro e w' ⟨rfl, rfl⟩))
  go_ret
  exact ⟨rfl, H.out, Chg.refl _ _ _⟩
set_option maxRecDepth 100000 in
set_option maxHeartbeats 1000000 in
theorem rrename_fails (w : World) (B d : Nat) (m : M) (f t : Int) (h : Fk w B d m) (hB : B ≤ w.heap.size) (ht : there m f = 0) (ht0 : 0 ≤ t) (hpl : ∀ k ks, m.plan = some (k, ks) → ks.length ≤ maxLen) (h5 : fails m = true) :
    Calls Tryz.prog 80 #[.pointer (some ⟨d, 0, none⟩), .int .i64 f, .int .i64 t] w (RDid w B d (.int .i64 8) (stepped m)) := by
  have con := rthere_ok w B d m f h
  have con2 := rfails_ok w B d m h hB (there_on ht) hpl
  rw [ht] at con
  rw [h5] at con2
  clear h hB ht hpl h5
  go_enter Tryz.func80, Tryz.ntmps80
  go_wp2_with (first | (go_at_call 102; refine con.mono ?_; rintro e w' ⟨rfl, rfl⟩) | (go_at_call 53; refine con2.mono ?_; rintro e w' ⟨rfl, h1, h2⟩))
  go_ret
  exact ⟨rfl, h1, h2⟩
set_option maxRecDepth 100000 in
set_option maxHeartbeats 1000000 in
theorem rrename_same (w : World) (B d : Nat) (m : M) (f : Int) (h : Fk w B d m) (hB : B ≤ w.heap.size) (ht : there m f = 0) (ht0 : 0 ≤ f) (hpl : ∀ k ks, m.plan = some (k, ks) → ks.length ≤ maxLen) (h5 : fails m = false) :
    Calls Tryz.prog 80 #[.pointer (some ⟨d, 0, none⟩), .int .i64 f, .int .i64 f] w (RDid w B d (.int .i64 0) (stepped m)) := by
  have con := rthere_ok w B d m f h
  have con2 := rfails_ok w B d m h hB (there_on ht) hpl
  rw [ht] at con
  rw [h5] at con2
  clear h hB ht hpl h5
  go_enter Tryz.func80, Tryz.ntmps80
  go_wp2_with (first | (go_at_call 102; refine con.mono ?_; rintro e w' ⟨rfl, rfl⟩) | (go_at_call 53; refine con2.mono ?_; rintro e w' ⟨rfl, h1, h2⟩))
  go_ret
  exact ⟨rfl, h1, h2⟩

theorem add_without (t : Int) (fs : List Int) : add t (without t fs) = add t fs := by unfold add; rw [without_without]
theorem add_len (t : Int) (fs : List Int) : (add t fs).length ≤ fs.length + 1 := by
  have h1 : ∀ (gs : List Int), (ins t gs).length = gs.length + 1 := fun gs => by
    induction gs with
    | nil => rfl
    | cons g gs ih => unfold ins; split <;> simp [ih]
  unfold add
  rw [h1]
  have : (without t fs).length ≤ fs.length := List.length_filter_le _ _
  omega

set_option maxRecDepth 100000 in
set_option maxHeartbeats 4000000 in
theorem rrename_goes (w : World) (B d : Nat) (m : M) (f t : Int) (h : Fk w B d m) (hB : B ≤ w.heap.size) (hi : Inv m) (ht : there m f = 0) (hpl : ∀ k ks, m.plan = some (k, ks) → ks.length ≤ maxLen) (h5 : fails m = false) (hne : f ≠ t) (ht0 : 0 ≤ t) (htb : t < 9223372036854775808) :
    Calls Tryz.prog 80 #[.pointer (some ⟨d, 0, none⟩), .int .i64 f, .int .i64 t] w (RDid w B d (.int .i64 0) { stepped m with files := without f (add t m.files), l := moveL f t (dropL t m.l) }) := by
  have con := rthere_ok w B d m f h
  have con2 := rfails_ok w B d m h hB (there_on ht) hpl
  have hfm := there_here ht
  rw [ht] at con
  rw [h5] at con2
  have hir := hi.rename f t htb
  rw [rename_goes ht (by omega) h5 hne] at hir
  obtain ⟨e1, e2, e3, e4⟩ := stepped_same h5
  have hms : m.files.Pairwise (· < ·) := hi.sorted
  have hmf := hi.few
  have hll : m.l.length ≤ 1000 := by have := hi.most; have := hi.room; omega
  have con3 := fun (w1 : World) (h1 : Fk w1 B d (stepped m)) (hB1 : B ≤ w1.heap.size) => rdrop_ok w1 B d (stepped m) t h1.fu hB1 (by rw [e1]; exact hms) (by rw [e1]; exact hmf) (by rw [e2]; exact hll)
  rw [e1, e2] at con3
  have hds : (without t m.files).Pairwise (· < ·) := sorted_without t _ hms
  have hdl : (without t m.files).length ≤ 1000 := Nat.le_trans (List.length_filter_le _ _) hmf
  have con4 := fun (w1 : World) (h1 : Fu w1 B d { stepped m with files := without t m.files, l := dropL t m.l }) => radd_ok w1 B d { stepped m with files := without t m.files, l := dropL t m.l } t h1 hds hdl
  simp only [add_without] at con4
  have hq : (f == t) = false := by simpa using hne
  obtain ⟨fs, hfs⟩ : ∃ fs, fs = add t m.files := ⟨_, rfl⟩
  have hss : fs.Pairwise (· < ·) := by rw [hfs]; exact sorted_add t _ hms
  have hl : fs.length ≤ 1001 := by rw [hfs]; have := add_len t m.files; omega
  have hff : f ∈ fs := by rw [hfs, mem_add]; exact .inr hfm
  have hk := idxOf_lt hff
  obtain ⟨k, hkk⟩ : ∃ k, k = fs.idxOf f := ⟨_, rfl⟩
  have hat : atI f fs = (k : Int) := by rw [hkk]; exact if_pos hff
  rw [← hkk] at hk
  have hw := without_at hss hff
  rw [← hkk] at hw
  have HIR := Lib.hid hir
  have HWO := Lib.hid hw
  have HAT := Lib.hid hat
  have HFS := Lib.hid hfs
  have HLL := Lib.hid hll
  clear h ht hpl h5 hir e1 e2 e3 e4 hi hfm hms hmf hds hdl hss hff hkk hw hat hfs hll hne
  go_enter Tryz.func80, Tryz.ntmps80
  go_wp2_with (first | (go_at_call 102; refine con.mono ?_; rintro e w' ⟨rfl, rfl⟩))
  refine con2.mono ?_
  clear con2 con
  rintro e w1 ⟨rfl, h1, hc1⟩
  have HC1 := Lib.hid hc1
  have con5 := con3 w1 h1 (Nat.le_trans hB hc1.size)
  clear con3 h1 hc1
  go_wp2_with fail
  refine con5.mono ?_
  clear con5
  rintro e w2 ⟨rfl, h2, hc2⟩
  have HC2 := Lib.hid hc2
  have con6 := con4 w2 h2
  clear con4 h2 hc2
  go_wp2_with fail
  refine con6.mono ?_
  clear con6
  rintro e w3 ⟨rfl, h3, hc3⟩
  have HC3 := Lib.hid hc3
  obtain ⟨A, c, lv, kv, left, h3⟩ := h3
  have hcel := h3.cel
  have hcap := h3.cap
  have hfi := h3.files
  dsimp only at hcel hcap hfi
  rw [← HFS.out] at hcel hcap hfi
  have con7 := at_ok1 w3 d fs f A c (hcel.cell 1) hfi hl
  rw [HAT.out] at con7
  obtain ⟨ad, hA, _⟩ := hfi (by omega)
  subst hA
  have H3 := Lib.hid h3
  have HC := Lib.hid hcel
  have HCAP := Lib.hid hcap
  have HI := Lib.hid hfi
  clear h3 hc3 hcel hfi
  go_wp2_with fail
  refine con7.mono ?_
  clear con7
  rintro e W ⟨rfl, rfl⟩
  go_wp2_with fail
  obtain ⟨W, rfl⟩ : ∃ W : World, W = w3 := ⟨_, rfl⟩
  obtain ⟨X, hX⟩ : ∃ X, X = if c = k + 1 then some ad else (some ad).map (·.add ((k + 1) * 1)) := ⟨_, rfl⟩
  have HX := Lib.hid hX
  clear hX
  refine wp_region_N [19] (Below W.heap.size W) (by kernel_rfl) ?_
  have hH : Below W.heap.size W W.drew := (Below.refl _ _).drew
  have hlv : ∀ V, Below W.heap.size W V → V.cell? ⟨d, 1, none⟩ = some (.slice (some ad) fs.length c) := fun V hV => (Cel.below HC.out hV HC.out.lt).cell 1
  refine wpAnyN_take (i := 0) (v := .pointer (some ⟨d, 0, none⟩)) [19] (by kernel_rfl) rfl (by kernel_rfl) (by kernel_rfl) (by kernel_rfl) (fun _ _ _ h => h) (Or.inl ⟨by rfl, ?_⟩) hH ?_
  · intro V hV; go_simp
  try simp only [Act.put, List.setIfInBounds_toArray, List.set_cons_zero, List.set_cons_succ, List.getElem_toArray, List.getElem_cons_succ, List.getElem_cons_zero]
  refine wpAnyN_take (i := 2) (v := .pointer (some ⟨d, 0, none⟩)) [19] (by kernel_rfl) rfl (by kernel_rfl) (by kernel_rfl) (by kernel_rfl) (fun _ _ _ h => h) (Or.inl ⟨by rfl, ?_⟩) hH ?_
  · intro V hV; go_simp
  try simp only [Act.put, List.setIfInBounds_toArray, List.set_cons_zero, List.set_cons_succ, List.getElem_toArray, List.getElem_cons_succ, List.getElem_cons_zero]
  refine wpAnyN_take (i := 3) (v := .pointer (some ⟨d, 0, none⟩)) [19] (by kernel_rfl) rfl (by kernel_rfl) (by kernel_rfl) (by kernel_rfl) (fun _ _ _ h => h) (Or.inl ⟨by rfl, ?_⟩) hH ?_
  · intro V hV; go_simp
  try simp only [Act.put, List.setIfInBounds_toArray, List.set_cons_zero, List.set_cons_succ, List.getElem_toArray, List.getElem_cons_succ, List.getElem_cons_zero]
  refine wpAnyN_take (i := 4) (v := .pointer (some ⟨d, 1, none⟩)) [19] (by kernel_rfl) rfl (by kernel_rfl) (by kernel_rfl) (by kernel_rfl) (fun _ _ _ h => h) (Or.inl ⟨by rfl, ?_⟩) hH ?_
  · intro V hV; go_simp
  try simp only [Act.put, List.setIfInBounds_toArray, List.set_cons_zero, List.set_cons_succ, List.getElem_toArray, List.getElem_cons_succ, List.getElem_cons_zero]
  refine wpAnyN_take (i := 5) (v := .slice (some ad) fs.length c) [19] (by kernel_rfl) rfl (by kernel_rfl) (by kernel_rfl) (by kernel_rfl) (fun _ _ _ h => h) (Or.inl ⟨by rfl, ?_⟩) hH ?_
  · intro V hV; have k := hlv V hV; go_simp
  try simp only [Act.put, List.setIfInBounds_toArray, List.set_cons_zero, List.set_cons_succ, List.getElem_toArray, List.getElem_cons_succ, List.getElem_cons_zero]
  refine wpAnyN_take (i := 6) (v := .int .i64 (k : Nat)) [19] (by kernel_rfl) rfl (by kernel_rfl) (by kernel_rfl) (by kernel_rfl) (fun _ _ _ h => h) (Or.inl ⟨by rfl, ?_⟩) hH ?_
  · intro V hV; go_simp
  try simp only [Act.put, List.setIfInBounds_toArray, List.set_cons_zero, List.set_cons_succ, List.getElem_toArray, List.getElem_cons_succ, List.getElem_cons_zero]
  refine wpAnyN_take (i := 7) (v := .slice (some ad) k c) [19] (by kernel_rfl) rfl (by kernel_rfl) (by kernel_rfl) (by kernel_rfl) (fun _ _ _ h => h) (yieldsIf_slice (by rfl) 34 (.tmp 37) none (some (.tmp 38)) none rfl _ (fun V => run_cutTo V undI sizeI (some ad) fs.length c k .i64 (by omega))) hH ?_
  try simp only [Act.put, List.setIfInBounds_toArray, List.set_cons_zero, List.set_cons_succ, List.getElem_toArray, List.getElem_cons_succ, List.getElem_cons_zero]
  refine wpAnyN_take (i := 9) (v := .pointer (some ⟨d, 0, none⟩)) [19] (by kernel_rfl) rfl (by kernel_rfl) (by kernel_rfl) (by kernel_rfl) (fun _ _ _ h => h) (Or.inl ⟨by rfl, ?_⟩) hH ?_
  · intro V hV; go_simp
  try simp only [Act.put, List.setIfInBounds_toArray, List.set_cons_zero, List.set_cons_succ, List.getElem_toArray, List.getElem_cons_succ, List.getElem_cons_zero]
  refine wpAnyN_take (i := 10) (v := .pointer (some ⟨d, 0, none⟩)) [19] (by kernel_rfl) rfl (by kernel_rfl) (by kernel_rfl) (by kernel_rfl) (fun _ _ _ h => h) (Or.inl ⟨by rfl, ?_⟩) hH ?_
  · intro V hV; go_simp
  try simp only [Act.put, List.setIfInBounds_toArray, List.set_cons_zero, List.set_cons_succ, List.getElem_toArray, List.getElem_cons_succ, List.getElem_cons_zero]
  refine wpAnyN_take (i := 11) (v := .pointer (some ⟨d, 1, none⟩)) [19] (by kernel_rfl) rfl (by kernel_rfl) (by kernel_rfl) (by kernel_rfl) (fun _ _ _ h => h) (Or.inl ⟨by rfl, ?_⟩) hH ?_
  · intro V hV; go_simp
  try simp only [Act.put, List.setIfInBounds_toArray, List.set_cons_zero, List.set_cons_succ, List.getElem_toArray, List.getElem_cons_succ, List.getElem_cons_zero]
  refine wpAnyN_take (i := 12) (v := .slice (some ad) fs.length c) [19] (by kernel_rfl) rfl (by kernel_rfl) (by kernel_rfl) (by kernel_rfl) (fun _ _ _ h => h) (Or.inl ⟨by rfl, ?_⟩) hH ?_
  · intro V hV; have k := hlv V hV; go_simp
  try simp only [Act.put, List.setIfInBounds_toArray, List.set_cons_zero, List.set_cons_succ, List.getElem_toArray, List.getElem_cons_succ, List.getElem_cons_zero]
  refine wpAnyN_take (i := 13) (v := .int .i64 (k : Nat)) [19] (by kernel_rfl) rfl (by kernel_rfl) (by kernel_rfl) (by kernel_rfl) (fun _ _ _ h => h) (Or.inl ⟨by rfl, ?_⟩) hH ?_
  · intro V hV; go_simp
  try simp only [Act.put, List.setIfInBounds_toArray, List.set_cons_zero, List.set_cons_succ, List.getElem_toArray, List.getElem_cons_succ, List.getElem_cons_zero]
  refine wpAnyN_take (i := 14) (v := .int .i64 ((k + 1 : Nat) : Int)) [19] (by kernel_rfl) rfl (by kernel_rfl) (by kernel_rfl) (by kernel_rfl) (fun _ _ _ h => h) (Or.inl ⟨by rfl, ?_⟩) hH ?_
  · intro V hV; have ew : IntKind.i64.wrap ((k : Int) + 1) = (k : Int) + 1 := (IntWalk.i64_in _ (by omega)); push_cast; go_simp
  try simp only [Act.put, List.setIfInBounds_toArray, List.set_cons_zero, List.set_cons_succ, List.getElem_toArray, List.getElem_cons_succ, List.getElem_cons_zero]
  refine wpAnyN_take (i := 15) (v := .slice X (fs.length - (k + 1)) (c - (k + 1))) [19] (by kernel_rfl) rfl (by kernel_rfl) (by kernel_rfl) (by kernel_rfl) (fun _ _ _ h => h) (yieldsIf_slice (by rfl) 34 (.tmp 44) (some (.tmp 46)) none none rfl _ (fun V => by rw [HX.out]; exact run_cutFrom V undI sizeI (some ad) fs.length c (k + 1) .i64 (by omega))) hH ?_
  try simp only [Act.put, List.setIfInBounds_toArray, List.set_cons_zero, List.set_cons_succ, List.getElem_toArray, List.getElem_cons_succ, List.getElem_cons_zero]
  refine wpAnyN_one (i := 1) (by kernel_rfl) rfl (fun K hK => ?_)
  go_simp
  refine hK.out _ _ (.inr (hH.alloc hH.size _)) ?_
  clear hK K
  try simp only [Act.put, List.setIfInBounds_toArray, List.set_cons_zero, List.set_cons_succ, List.getElem_toArray, List.getElem_cons_succ, List.getElem_cons_zero]
  have o0 : (W.drew.alloc (.cells #[] 3)).ownsRow W.heap.size 3 1 (.slice (some ⟨W.heap.size, 0, none⟩) 0 0) 0 [] := World.ownsRow_lit W.drew #[] 0 (Nat.le_refl _) (Nat.zero_le _) rfl
  have hB0 := hH.alloc hH.size (.cells #[] 3)
  have s0 := (HI.out.take k).below hB0
  refine wpAnyN_one (i := 8) (by kernel_rfl) rfl (fun K hK => ?_)
  rw [if_pos (by rfl)]
  refine wp_append_any _ (.tmp 33) (.tmp 39) 34 rfl W.heap.size 3 intsT _ 0 [] rfl o0 (some ad) k c ((fs.take k).map (Value.int .i64)) rfl (by rw [List.length_map, List.length_take]; omega) (by have := s0.src; rw [List.length_take, Nat.min_eq_left (by omega)] at this; exact this) (ints_one _) k _ (Nat.zero_add _) (List.nil_append _) (by unfold maxLen; omega) (by omega) hB0.size ?_
  intro A1 c1 w1 o1 g1 _
  have hb1 : Below W.heap.size W w1 := hB0.grown g1 hB0.size (by intro g hg; cases hg; exact Nat.le_refl _)
  refine hK.out _ _ (.inr hb1) ?_
  clear hK K
  try simp only [Act.put, List.setIfInBounds_toArray, List.set_cons_zero, List.set_cons_succ, List.getElem_toArray, List.getElem_cons_succ, List.getElem_cons_zero]
  have s1 := (HI.out.cut (k := k + 1) HCAP.out).below hb1
  refine wpAnyN_one (i := 16) (by kernel_rfl) rfl (fun K hK => ?_)
  rw [if_pos (by rfl)]
  refine wp_append_any _ (.tmp 40) (.tmp 47) 34 rfl W.heap.size 3 intsT _ k _ rfl o1 X (fs.length - (k + 1)) (c - (k + 1)) ((fs.drop (k + 1)).map (Value.int .i64)) rfl (by rw [List.length_map, List.length_drop, Nat.mul_one]) (by have := s1.src; rw [List.length_drop] at this; rw [HX.out, Nat.mul_one]; exact this) (ints_one _) (fs.length - 1) ((fs.take k ++ fs.drop (k + 1)).map (Value.int .i64)) (by omega) (by rw [List.map_append]) (by unfold maxLen; omega) (by omega) hb1.size ?_
  intro A2 c2 w2 o2 g2 _
  have hb2 : Below W.heap.size W w2 := hb1.grown g2 hb1.size (fun g hg => (World.ownsRow.lt o1 g hg).1)
  refine hK.out _ _ (.inr hb2) ?_
  clear hK K
  try simp only [Act.put, List.setIfInBounds_toArray, List.set_cons_zero, List.set_cons_succ, List.getElem_toArray, List.getElem_cons_succ, List.getElem_cons_zero]
  refine wpAnyN_one (i := 17) (by kernel_rfl) rfl (fun K hK => ?_)
  go_simp
  refine hK.out _ _ (.inr hb2) ?_
  clear hK K
  try simp only [Act.put, List.setIfInBounds_toArray, List.set_cons_zero, List.set_cons_succ, List.getElem_toArray, List.getElem_cons_succ, List.getElem_cons_zero]
  refine wpAnyN_one (i := 18) (by kernel_rfl) rfl (fun K hK => ?_)
  go_simp
  refine hK.out _ _ (.inr hb2) ?_
  clear hK K
  try simp only [Act.put, List.setIfInBounds_toArray, List.set_cons_zero, List.set_cons_succ, List.getElem_toArray, List.getElem_cons_succ, List.getElem_cons_zero]
  have hc2 := Cel.below HC.out hb2 HC.out.lt
  have e2 := hc2.cell 1
  have f2 := hc2.free 1
  refine wpAnyN_one (i := 19) (by kernel_rfl) rfl (fun K hK => ?_)
  go_simp
  refine hK.out _ _ (.inl (by decide)) ?_
  clear hK K
  refine wpAnyN_done (by kernel_rfl) ?_ _
  go_wp2_with fail
  have hlen : (without f fs).length = fs.length - 1 := by rw [HWO.out, List.length_append, List.length_take, List.length_drop]; omega
  have o3 : w2.ownsRow W.heap.size 3 1 (.slice A2 (without f fs).length c2) (without f fs).length ((without f fs).map (Value.int .i64)) := by rw [hlen, HWO.out]; exact o2
  obtain ⟨hw3, hch3⟩ := H3.out.setFiles hb2 A2 c2 W.heap.size (without f fs) o3
  rw [hlen] at hw3 hch3
  have HCH0 := Lib.hid hch3
  obtain ⟨m3, hm3⟩ : ∃ m3 : M, m3 = { stepped m with files := without f fs, l := dropL t m.l } := ⟨_, rfl⟩
  have hw4 : Fw (w2.setCell ⟨d, 1, none⟩ (.slice A2 (fs.length - 1) c2)) B d m3 A2 c2 lv kv left := by rw [hm3]; exact hw3
  clear hw3 hch3 hlen o3 o2 g2 hb2 hc2 e2 f2 o1 g1 hb1 s0 s1 o0 hB0 hH hlv
  generalize w2.setCell ⟨d, 1, none⟩ (.slice A2 (fs.length - 1) c2) = W1 at *
  obtain ⟨A3, hA3⟩ : ∃ A3, A3 = A2 := ⟨_, rfl⟩
  obtain ⟨c3, hc3⟩ : ∃ c3, c3 = c2 := ⟨_, rfl⟩
  obtain ⟨kv3, hkv3⟩ : ∃ kv3, kv3 = kv := ⟨_, rfl⟩
  obtain ⟨left3, hleft3⟩ : ∃ left3, left3 = left := ⟨_, rfl⟩
  rw [← hA3, ← hc3, ← hkv3, ← hleft3] at hw4
  obtain ⟨lA, lc, hlv⟩ := hw4.row.form
  subst hlv
  obtain ⟨N, hN⟩ : ∃ N, N = m3.l.length := ⟨_, rfl⟩
  rw [← hN] at hw4
  obtain ⟨l0, hl0⟩ : ∃ l0, l0 = m3.l := ⟨_, rfl⟩
  have hN1 : N ≤ 1000 := by
    rw [hN, hm3]
    have : (dropL t m.l).length ≤ m.l.length := List.length_filter_le _ _
    have := HLL.out
    show (dropL t m.l).length ≤ 1000
    omega
  have hll := hN1
  have hrow0 := hw4.row
  rw [← hl0] at hrow0
  have hl0l : l0.length = N := by rw [hl0, hN]
  have k2 := hw4.cel.cell 2
  have H := Lib.hid hw4
  have HL0 := Lib.hid hl0
  have HM3 := Lib.hid hm3
  have HLL := Lib.hid hl0l
  have HROW0 := Lib.hid hrow0
  clear hw4 hl0 hl0l hrow0 hm3 hN
  go_loopw [9] (fun i wr => ∃ j : Nat, j ≤ N ∧ i = .int .i64 j ∧ Rl wr B (.slice lA N lc) (mapTo (fun c : Cl => if c.file = f then ⟨t, c.b, c.s⟩ else c) l0 j) ∧ Chg B Rob W1 wr ∧ Cel wr d 38 [.int .i64 m3.room, .slice A3 m3.files.length c3, .slice lA N lc, .bool m3.off, .bool m3.plan.isSome, .int .i64 left3, kv3])
    (fun i _ => N - (Go.RowKit.intOf i).toNat)
  case atStart => exact ⟨0, Nat.zero_le _, rfl, by simpa [mapTo] using HROW0.out, Chg.refl _ _ _, H.out.cel⟩
  case round =>
    obtain ⟨j, hj, rfl, hrl, hch, hcel⟩ := hrel
    have HRL := Lib.hid hrl
    have HCG := Lib.hid hch
    have HCEL := Lib.hid hcel
    have k2' := hcel.cell 2
    clear hrl hch hcel k2
    by_cases hlt : j < N
    · obtain ⟨x, hx⟩ : ∃ x, l0[j]? = some x := ⟨_, List.getElem?_eq_getElem (by rw [HLL.out]; exact hlt)⟩
      have hmx := mapTo_at (q := (fun c : Cl => if c.file = f then ⟨t, c.b, c.s⟩ else c)) hx
      have hpl : (mapTo (fun c : Cl => if c.file = f then ⟨t, c.b, c.s⟩ else c) l0 j).length = N := mapTo_len.trans HLL.out
      obtain ⟨g, cap, hv, hgB, hgl⟩ : ∃ g cap, Value.slice lA N lc = .slice (some ⟨g, 0, none⟩) N cap ∧ B ≤ g ∧ g < wr.heap.size := by
        rcases HRL.out.cases with ⟨_, e⟩ | ⟨g, cap, e, q1, q2, _⟩
        · rw [e] at hpl; simp at hpl; omega
        · rw [hpl] at e; exact ⟨g, cap, e, q1, q2⟩
      cases hv
      have hr : Rl wr B (.slice (some ⟨g, 0, none⟩) (mapTo (fun c : Cl => if c.file = f then ⟨t, c.b, c.s⟩ else c) l0 j).length lc) (mapTo (fun c : Cl => if c.file = f then ⟨t, c.b, c.s⟩ else c) l0 j) := by rw [hpl]; exact HRL.out
      obtain ⟨q0, q1, q2⟩ := hr.cell hmx
      have hfz := World.ownsRow.frozenAt hr (j * 3)
      have HHR := Lib.hid hr
      have HMX := Lib.hid hmx
      have HX0 := Lib.hid hx
      have HPL := Lib.hid hpl
      clear hr hmx hx hpl
      by_cases hxf : x.file = f
      · have hq : (x.file == f) = true := by simpa using hxf
        have HXF := Lib.hid hxf
        clear hxf
        obtain ⟨z1, z2⟩ := HHR.out.set HMX.out (by omega : 0 < 3) (.int .i64 t) ((fun c : Cl => if c.file = f then ⟨t, c.b, c.s⟩ else c) x) (by show _ = Cl.cells (if x.file = f then _ else x); rw [if_pos HXF.out]; rfl)
        rw [mapTo_set HX0.out, HPL.out] at z1
        have hch2 : Chg B Rob W1 (wr.setCell ⟨g, j * 3, none⟩ (.int .i64 t)) := HCG.out.trans (HRL.out.chgd z2)
        have hcel2 := HCEL.out.far (HRL.out.apart HCEL.out) (p := ⟨g, j * 3, none⟩) (.int .i64 t)
        have Z1 := Lib.hid z1
        have Z2 := Lib.hid hch2
        have Z3 := Lib.hid hcel2
        clear z1 z2 hch2 hcel2
        go_wp2_with fail
        go_roundw
        case rel => exact ⟨j + 1, by omega, by go_num, Z1.out, Z2.out, Z3.out⟩
        case measure => simp [Go.RowKit.intOf]; omega
      · have hq : (x.file == f) = false := by simpa using hxf
        have hm := mapTo_same (q := (fun c : Cl => if c.file = f then ⟨t, c.b, c.s⟩ else c)) HX0.out (if_neg hxf)
        have HM := Lib.hid hm
        clear hm
        go_wp2_with fail
        go_roundw
        case rel => exact ⟨j + 1, by omega, by go_num, by rw [← HM.out]; exact HRL.out, HCG.out, HCEL.out⟩
        case measure => simp [Go.RowKit.intOf]; omega
    · obtain rfl : j = N := by omega
      go_wp2_with fail
      go_ret
      have hrl := HRL.out
      rw [← HLL.out, mapTo_all, HLL.out, HL0.out] at hrl
      have hx : Fw wr B d { m3 with l := moveL f t m3.l } A3 c3 _ kv3 left3 :=
        ⟨HCEL.out, H.out.own, H.out.cap, H.out.files.chg HCG.out (fun _ _ => notRob_int), hrl, fun k ks e => ⟨(H.out.plan k ks e).1, (H.out.plan k ks e).2.chg HCG.out (fun _ _ => notRob_bool)⟩⟩
      have hy : Fu wr B d { stepped m with files := without f (add t m.files), l := moveL f t (dropL t m.l) } := ⟨_, _, _, _, _, by rw [HM3.out, HFS.out] at hx; exact hx⟩
      exact ⟨rfl, hy.fk HIR.out, ((((HC1.out.trans HC2.out).trans HC3.out)).trans HCH0.out).trans HCG.out⟩
theorem rrename_ok (w : World) (B d : Nat) (m : M) (f t : Int) (h : Fk w B d m) (hB : B ≤ w.heap.size) (hi : Inv m) (htb : t < 9223372036854775808) (hpl : ∀ k ks, m.plan = some (k, ks) → ks.length ≤ maxLen) :
    Calls Tryz.prog 80 #[.pointer (some ⟨d, 0, none⟩), .int .i64 f, .int .i64 t] w (RDid w B d (.int .i64 (rename m f t).1) (rename m f t).2) := by
  by_cases ht : there m f = 0
  · by_cases ht0 : t < 0
    · rw [rename_arg ht ht0]; exact rrename_arg w B d m f t h ht ht0
    · cases h5 : fails m
      · by_cases hne : f = t
        · subst hne
          rw [rename_same ht ht0 h5]; exact rrename_same w B d m f h hB ht (by omega) hpl h5
        · rw [rename_goes ht ht0 h5 hne]; exact rrename_goes w B d m f t h hB hi ht hpl h5 hne (by omega) htb
      · rw [rename_fails ht ht0 h5]; exact rrename_fails w B d m f t h hB ht (by omega) hpl h5
  · rw [rename_not ht]; exact rrename_not w B d m f t h ht
theorem rsync_ok (w : World) (B d : Nat) (m : M) (f : Int) (h : Fk w B d m) (hB : B ≤ w.heap.size) (hi : Inv m) (hpl : ∀ k ks, m.plan = some (k, ks) → ks.length ≤ maxLen) :
    Calls Tryz.prog 79 #[.pointer (some ⟨d, 0, none⟩), .int .i64 f] w (RDid w B d (.int .i64 (sync m f).1) (sync m f).2) := by
  by_cases ht : there m f = 0
  · cases h5 : fails m
    · rw [sync_goes ht h5]; exact rsync_goes w B d m f h hB hi ht hpl h5
    · rw [sync_fails ht h5]; exact rsync_fails w B d m f h hB ht hpl h5
  · rw [sync_not ht]; exact rsync_not w B d m f h ht
theorem rremove_ok (w : World) (B d : Nat) (m : M) (f : Int) (h : Fk w B d m) (hB : B ≤ w.heap.size) (hi : Inv m) (hpl : ∀ k ks, m.plan = some (k, ks) → ks.length ≤ maxLen) :
    Calls Tryz.prog 77 #[.pointer (some ⟨d, 0, none⟩), .int .i64 f] w (RDid w B d (.int .i64 (remove m f).1) (remove m f).2) := by
  by_cases ht : there m f = 0
  · cases h5 : fails m
    · rw [remove_goes ht h5]; exact rremove_goes w B d m f h hB hi ht hpl h5
    · rw [remove_fails ht h5]; exact rremove_fails w B d m f h hB ht hpl h5
  · rw [remove_not ht]; exact rremove_not w B d m f h ht
end Go.Proofs.YtdaknfepcbooeaaGreat.Disk
end
