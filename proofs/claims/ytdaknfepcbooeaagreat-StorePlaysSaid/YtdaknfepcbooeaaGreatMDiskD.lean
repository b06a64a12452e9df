/-
  The document's disk: Zeros, Up, Fail, Crash, fails.
  The document's add and drop.
  The document's add.
-/
import Derived.Test.YtdaknfepcbooeaaGreatMDiskB
import Derived.Test.YtdaknfepcbooeaaGreatMBaseB
import Derived.Test.YtdaknfepcbooeaaGreatMDiskRef
import Derived.Deep.QuietTactic
import Derived.BigQuiet
import Derived.Laws.Tables
section
namespace Go.Proofs.YtdaknfepcbooeaaGreat.Disk
open Go.RowKit Go.Proofs.YtdaknfepcbooeaaGreat.Ord
set_option linter.unusedVariables false
set_option linter.unusedSimpArgs false

theorem bytesT0 : ByteRow Tryz.prog 44 5 := ByteRow.mk' Tryz.underlying44 (by kernel_rfl)
theorem toStr {w : World} {B : Nat} {A : Option Addr} {n : Nat} {bs : List (BitVec 8)} (h : Bs w B A n bs) (c : Nat) : (convert 44 9 (.slice A n c)).run Tryz.prog w = .ok (.string (str bs)) w :=
  Bp.string (p := fun k => k < B) ⟨h.1, fun hn => (h.2 hn)⟩ c Tryz.underlying44 Tryz.underlying5 Tryz.underlying9

set_option maxRecDepth 100000 in
set_option maxHeartbeats 1000000 in
theorem zeros_ok (w : World) : Calls Tryz.prog 49 #[] w fun e w' => e = .returned (.string (str zeros)) ∧ Below w.heap.size w w' := by
  obtain ⟨zs, hz⟩ : ∃ zs, zs = List.replicate 512 (v8 0#8) := ⟨_, rfl⟩
  have hmk : (Instr.makeSlice 44 (.int .i64 512) (.int .i64 512)).run Tryz.prog w = .ok (.slice (some ⟨w.heap.size, 0, none⟩) 512 512) (w.alloc (.cells zs.toArray 5)) := by
    rw [hz]
    exact run_make_bytes (P := Tryz.prog) w 44 5 bytesT0 .i64 .i64 512 (by omega)
  have hcl := Cel.new w 5 zs
  have hbs : Bs (w.alloc (.cells zs.toArray 5)) (w.heap.size + 1) (some ⟨w.heap.size, 0, none⟩) 512 zeros := ⟨zeros_len, fun _ => ⟨_, rfl, by simp, fun j hj => by
    rw [Addr.add_lit, Nat.zero_add, hcl.cell j, hz]
    unfold zeros
    rw [List.getElem?_replicate, if_pos hj, List.getD_eq_getElem?_getD, List.getElem?_replicate, if_pos hj]; rfl⟩⟩
  have q := toStr hbs 512
  have hb : Below w.heap.size w (w.alloc (.cells zs.toArray 5)) := (Below.refl _ _).alloc (Nat.le_refl _) _
  clear hz hcl hbs
  go_enter Tryz.func49, Tryz.ntmps49
  go_wp2_with fail
  go_ret
  exact ⟨rfl, hb⟩

/-- The answer without results. -/
def RDone (w : World) (B d : Nat) (m : M) (r : Ending) (w' : World) : Prop := r = .returned (.tuple #[]) ∧ Fk w' B d m ∧ Chg B Rob w w'
theorem Fv.chgHead {w w' : World} {B d : Nat} {m : M} {A : Option Addr} {c : Nat} {lv kv : Value} {left : Int} (h : Fv w B d m A c lv kv left) (hg : w.grownBy w' (some d)) : Chg B Rob w w' :=
  (Chg.refl B Rob w).grown hg fun g e => by cases e; exact .inr ⟨h.own, _, h.cel, .inl rfl⟩
theorem Fv.rowHead {w w' : World} {B d : Nat} {m : M} {A : Option Addr} {c : Nat} {lv kv : Value} {left : Int} (h : Fv w B d m A c lv kv left) (hg : w.grownBy w' (some d)) {v : Value} {l : List Cl} (hr : Rl w B v l) : Rl w' B v l := by
  refine World.ownsRow.kept hr hg ?_
  rcases hr.cases with ⟨e, _⟩ | ⟨g, cap, e, _, _, cur, hb⟩
  · rw [e]; exact .inl rfl
  · rw [e]
    refine .inr fun e' => ?_
    cases e'
    have := h.cel
    unfold Cel at this
    rw [hb] at this
    simp at this
theorem notRob_int {cs : Array Value} {fz : Nat × Nat} : ¬ Rob (.cells cs 3 fz) := by rintro (h | h) <;> revert h <;> decide
theorem notRob_bool {cs : Array Value} {fz : Nat × Nat} : ¬ Rob (.cells cs 4 fz) := by rintro (h | h) <;> revert h <;> decide

set_option maxRecDepth 100000 in
set_option maxHeartbeats 1000000 in
theorem rup_ok (w : World) (B d : Nat) (m : M) (h : Fk w B d m) : Calls Tryz.prog 22 #[.pointer (some ⟨d, 0, none⟩)] w (RDone w B d (up m)) := by
  obtain ⟨A, c, lv, kv, left, h⟩ := h
  obtain ⟨k0, k1, k2, k3, k4, k5, k6⟩ := Cel.at7 h.cel
  have f3 := h.cel.free 3
  have hg := grown_setCell w ⟨d, 3, none⟩ (.bool false)
  have hc := h.cel.set 3 (.bool false)
  have hch := h.chgHead hg
  have H := Lib.hid h
  have HG := Lib.hid hg
  have HC := Lib.hid hc
  have HCH := Lib.hid hch
  clear h hg hc hch k0 k1 k2 k4 k5 k6
  go_enter Tryz.func22, Tryz.ntmps22
  go_wp2_with fail
  go_end0
  exact ⟨rfl, ⟨A, c, lv, kv, left, H.out.inv.up, HC.out, H.out.own, H.out.cap, H.out.files.chg HCH.out (fun _ _ => notRob_int), H.out.rowHead HG.out H.out.row, fun k ks e => ⟨(H.out.plan k ks e).1, (H.out.plan k ks e).2.chg HCH.out (fun _ _ => notRob_bool)⟩⟩, HCH.out⟩

set_option maxRecDepth 100000 in
set_option maxHeartbeats 1000000 in
theorem rfail_ok (w : World) (B d : Nat) (m : M) (s : Int) (hs : s < 9223372036854775808) (keepV : Value) (ks : List Bool) (h : Fk w B d m) (hk : Bo w B keepV ks) :
    Calls Tryz.prog 18 #[.pointer (some ⟨d, 0, none⟩), .int .i64 s, keepV] w (RDone w B d (fail m s ks)) := by
  obtain ⟨A, c, lv, kv, left, h⟩ := h
  obtain ⟨k0, k1, k2, k3, k4, k5, k6⟩ := Cel.at7 h.cel
  have f4 := h.cel.free 4
  have f5 := h.cel.free 5
  have f6 := h.cel.free 6
  have hg := ((grown_setCell w ⟨d, 4, none⟩ (.bool (decide (0 ≤ s)))).andThen (grown_setCell _ ⟨d, 5, none⟩ (.int .i64 s)) (fun j hj => .inr hj)).andThen (grown_setCell _ ⟨d, 6, none⟩ keepV) (fun j hj => .inr hj)
  have hc := ((h.cel.set 4 (.bool (decide (0 ≤ s)))).set 5 (.int .i64 s)).set 6 keepV
  have hch := h.chgHead hg
  have hks := hk.chg hch (fun _ _ => notRob_bool)
  have hx : Fv (((w.setCell ⟨d, 4, none⟩ (.bool (decide (0 ≤ s)))).setCell ⟨d, 5, none⟩ (.int .i64 s)).setCell ⟨d, 6, none⟩ keepV) B d (fail m s ks) A c lv keepV s := by
    refine ⟨h.inv.fail s hs ks, ?_, h.own, h.cap, h.files.chg hch (fun _ _ => notRob_int), h.rowHead hg h.row, fun k l e => ?_⟩
    · have e : (fail m s ks).plan.isSome = decide (0 ≤ s) := by
        unfold fail
        by_cases h0 : s < 0
        · have : ¬ 0 ≤ s := by omega
          simp [h0, this]
        · have : 0 ≤ s := by omega
          simp [h0, this]
      rw [e]; exact hc
    · unfold fail at e
      dsimp only at e
      split at e
      · cases e
      · cases e; exact ⟨by omega, hks⟩
  have HX := Lib.hid hx
  have HCH := Lib.hid hch
  obtain ⟨kA, kc, rfl, _⟩ := id hk
  clear h hg hc hch hks hx k0 k1 k2 k3 hk
  go_enter Tryz.func18, Tryz.ntmps18
  go_wp2_with fail
  go_end0
  exact ⟨rfl, ⟨_, _, _, _, _, HX.out⟩, HCH.out⟩

/-- A row of the document's sectors, one of which is written. -/
theorem Rl.set {w : World} {B g cap : Nat} {l : List Cl} (h : Rl w B (.slice (some ⟨g, 0, none⟩) l.length cap) l) {i : Nat} {c : Cl} (hc : l[i]? = some c) {k : Nat} (hk : k < 3) (u : Value) (y : Cl) (hy : c.cells.set k u = y.cells) :
    Rl (w.setCell ⟨g, i * 3 + k, none⟩ u) B (.slice (some ⟨g, 0, none⟩) l.length cap) (l.set i y) ∧ w.grownBy (w.setCell ⟨g, i * 3 + k, none⟩ u) (some g) := by
  obtain ⟨h1, h2⟩ := World.ownsRow.stored h (i * 3 + k) u
  refine ⟨?_, h2⟩
  rw [set_cellsL hc hk u y hy] at h1
  unfold Rl
  rw [List.length_set]
  exact h1
theorem Rl.cell {w : World} {B g cap : Nat} {l : List Cl} (h : Rl w B (.slice (some ⟨g, 0, none⟩) l.length cap) l) {i : Nat} {c : Cl} (hc : l[i]? = some c) : w.cell? ⟨g, i * 3, none⟩ = some (.int .i64 c.file) ∧ w.cell? ⟨g, i * 3 + 1, none⟩ = some (.string (str c.b)) ∧ w.cell? ⟨g, i * 3 + 2, none⟩ = some (.bool c.s) := by
  have hk : ∀ k, k < 3 → w.cell? ⟨g, i * 3 + k, none⟩ = c.cells[k]? := fun k hk => by
    have h1 := cellsL_at hc hk
    have h2 : (cellsL l)[i * 3 + k]? = some (c.cells[k]'hk) := by rw [h1, List.getElem?_eq_getElem hk]
    have := World.ownsRow.cells h (g := g) rfl _ _ h2
    rw [Addr.add_lit, Nat.zero_add] at this
    rw [this, List.getElem?_eq_getElem hk]
  exact ⟨hk 0 (by omega), hk 1 (by omega), hk 2 (by omega)⟩
theorem Rl.chgd {w w' : World} {B : Nat} {v : Value} {l : List Cl} (h : Rl w B v l) (hg : w.grownBy w' v.ownBlock) : Chg B Rob w w' := by
  refine (Chg.refl B Rob w).grown hg fun g e => ?_
  rcases h.cases with ⟨rfl, _⟩ | ⟨g', cap, rfl, hB, _, cur, ho⟩
  · cases e
  · cases e
    exact .inr ⟨hB, _, ho, .inr rfl⟩

theorem Rl.block {w : World} {B g n c : Nat} {l : List Cl} (h : Rl w B (.slice (some ⟨g, 0, none⟩) n c) l) : ∃ cur, w.heap[g]? = some (.cells cur 85 (0, 0)) := by
  rcases h.cases with ⟨e, _⟩ | ⟨g', cap, e, _, _, cur, hb⟩
  · cases e
  · obtain rfl : g = g' := by injection e with e1; injection e1 with e1; injection e1
    exact ⟨cur, hb⟩
theorem Rl.apart {w : World} {B g n c d : Nat} {l : List Cl} {cs : List Value} (h : Rl w B (.slice (some ⟨g, 0, none⟩) n c) l) (hc : Cel w d 38 cs) : d ≠ g := by
  rintro rfl
  obtain ⟨cur, hb⟩ := h.block
  unfold Cel at hc
  rw [hb] at hc
  simp at hc

/-- What the sectors have become behind the first i of them. -/
def pmid (ks : List Bool) (f : Int) (n : Nat) (l : List Cl) (i : Nat) : List Cl := pass ks f n (l.take i) ++ l.drop i
theorem pmid_at {ks : List Bool} {f : Int} {n i : Nat} {l : List Cl} {c : Cl} (h : l[i]? = some c) : (pmid ks f n l i)[i]? = some c := by
  have hj := (List.getElem?_eq_some_iff.1 h).1
  have hl : (pass ks f n (l.take i)).length = i := by rw [pass_len, List.length_take]; omega
  unfold pmid
  rw [List.getElem?_append_right (by omega), hl, Nat.sub_self, List.getElem?_drop]
  exact h
theorem pmid_len {ks : List Bool} {f : Int} {n i : Nat} {l : List Cl} : (pmid ks f n l i).length = l.length := by
  unfold pmid
  rw [List.length_append, pass_len, List.length_take, List.length_drop]
  omega
theorem pmid_set {ks : List Bool} {f : Int} {n i : Nat} {l : List Cl} {c : Cl} (h : l[i]? = some c) (y : Cl) (hy : pass ks f (n + uns (rows f (l.take i))) [c] = [y]) : (pmid ks f n l i).set i y = pmid ks f n l (i + 1) := by
  obtain ⟨hj, rfl⟩ := List.getElem?_eq_some_iff.1 h
  have hl : (pass ks f n (l.take i)).length = i := by rw [pass_len, List.length_take]; omega
  unfold pmid
  rw [List.set_append_right _ _ (by omega), hl, Nat.sub_self, List.drop_eq_getElem_cons hj, List.set_cons_zero, List.take_succ_eq_append_getElem hj, pass_app, hy, List.append_assoc]
  rfl
theorem pmid_same {ks : List Bool} {f : Int} {n i : Nat} {l : List Cl} {c : Cl} (h : l[i]? = some c) (hy : pass ks f (n + uns (rows f (l.take i))) [c] = [c]) : pmid ks f n l i = pmid ks f n l (i + 1) := by
  rw [← pmid_set h c hy]
  refine List.ext_getElem? fun j => ?_
  rw [List.getElem?_set]
  have h2 := pmid_at (ks := ks) (f := f) (n := n) h
  split
  · rename_i e
    subst e
    rw [if_pos (List.getElem?_eq_some_iff.1 h2).1, h2]
  · rfl
theorem rows_take {f : Int} {i : Nat} {l : List Cl} {c : Cl} (h : l[i]? = some c) : uns (rows f (l.take (i + 1))) = uns (rows f (l.take i)) + if c.file = f ∧ c.s = false then 1 else 0 := by
  obtain ⟨hj, rfl⟩ := List.getElem?_eq_some_iff.1 h
  rw [List.take_succ_eq_append_getElem hj, rows_app, uns_app, rows_cons]
  by_cases hf : l[i].file = f
  · cases hs : l[i].s <;> simp [hf, hs, uns, rows, Cl.sc]
  · simp [hf, uns, rows]
theorem pass_other {ks : List Bool} {f : Int} {n : Nat} {c : Cl} (h : ¬ (c.file = f ∧ c.s = false)) : pass ks f n [c] = [c] := by rw [pass_cons, if_neg h]; rfl
theorem pass_hit {ks : List Bool} {f : Int} {n : Nat} {c : Cl} (h : c.file = f ∧ c.s = false) : pass ks f n [c] = [⟨c.file, if ks.getD n false then c.b else zeros, true⟩] := by rw [pass_cons, if_pos h]; rfl

theorem Chg.drewN {B : Nat} {T : Obj → Prop} {w w1 : World} (h : Chg B T w w1) (n : Nat) : Chg B T w (w1.drewN n) := ⟨h.os, h.tape, h.output, h.size, h.block⟩

set_option maxRecDepth 100000 in
set_option maxHeartbeats 1000000 in
theorem rcrash_on (w : World) (B d : Nat) (m : M) (A : Option Addr) (cf : Nat) (lv kv : Value) (left : Int) (keepV : Value) (ks : List Bool) (h : Fv w B d m A cf lv kv left) (hB : B ≤ w.heap.size) (hk : Bo w B keepV ks) (hks : ks.length ≤ maxLen) (ho : m.off = false) :
    Calls Tryz.prog 20 #[.pointer (some ⟨d, 0, none⟩), keepV] w (RDone w B d (lost m ks)) := by
  obtain ⟨kA, kc, rfl, hkc, hkn⟩ := id hk
  obtain ⟨k0, k1, k2, k3, k4, k5, k6⟩ := Cel.at7 h.cel
  rw [ho] at k3
  obtain ⟨lA, lc, hlv⟩ := h.row.form
  subst hlv
  have H := Lib.hid h
  have HK := Lib.hid hk
  have HKN := Lib.hid hkn
  have HB := Lib.hid hB
  have HO := Lib.hid ho
  unfold maxLen at hks
  clear h hk hkc hkn hB ho k0 k1 k2 k4 k5 k6
  go_enter Tryz.func20, Tryz.ntmps20
  go_wp2_with fail
  clear k3
  go_loopw [4, 5] (fun n i wr => ∃ k : Nat, k ≤ m.files.length ∧ i = .int .i64 k ∧ n = .int .i64 ((passes ks (m.files.take k) m.l).1 : Nat) ∧ Rl wr B (.slice lA m.l.length lc) (lostK m ks k).l ∧ Chg B Rob w wr ∧ Cel wr d 38 [.int .i64 m.room, .slice A m.files.length cf, .slice lA m.l.length lc, .bool m.off, .bool m.plan.isSome, .int .i64 left, kv])
    (fun _ i _ => m.files.length - (Go.RowKit.intOf i).toNat)
  case atStart => exact ⟨0, Nat.zero_le _, rfl, rfl, H.out.row, Chg.refl _ _ _, H.out.cel⟩
  case round =>
    obtain ⟨k, hk, rfl, rfl, hrl, hch, hcel⟩ := hrel
    have HRL := Lib.hid hrl
    have HCH := Lib.hid hch
    have HCEL := Lib.hid hcel
    have hfs := H.out.files.chg hch (fun _ _ => notRob_int)
    have HFS := Lib.hid hfs
    obtain ⟨k0, k1, k2, k3, k4, k5, k6⟩ := Cel.at7 hcel
    have hfew := H.out.inv.few
    clear hrl hch hcel hfs k0 k2 k4 k5 k6
    by_cases hlt : k < m.files.length
    · obtain ⟨f, hf⟩ : ∃ f, m.files[k]? = some f := ⟨_, List.getElem?_eq_getElem hlt⟩
      obtain ⟨n0, hn0⟩ : ∃ n0, n0 = (passes ks (m.files.take k) m.l).1 := ⟨_, rfl⟩
      rw [← hn0]
      obtain ⟨l0, hl0⟩ : ∃ l0, l0 = (lostK m ks k).l := ⟨_, rfl⟩
      have hll : l0.length = m.l.length := by rw [hl0]; exact (passes_bound ks (m.files.take k) m.l).2
      have hR := HRL.out
      rw [← hl0] at hR
      have hX : m.l.length ≤ 1000 := by have := H.out.inv.most; have := H.out.inv.room; omega
      have hn1 : n0 ≤ 1000 := by
        have h1 := (passes_bound ks (m.files.take k) m.l).1
        omega
      obtain ⟨wo, rfl⟩ : ∃ wo : World, wo = wr := ⟨_, rfl⟩
      have HN0 := Lib.hid hn0
      have HL0 := Lib.hid hl0
      have HLL := Lib.hid hll
      have HR := Lib.hid hR
      have HF0 := Lib.hid hf
      clear hn0 hl0 hR hf hll
      go_wp2_with fail
      go_loopw [4, 6] (fun n i wi => ∃ j : Nat, j ≤ m.l.length ∧ i = .int .i64 j ∧ n = .int .i64 ((n0 + uns (rows f (l0.take j)) : Nat) : Int) ∧ Rl wi B (.slice lA m.l.length lc) (pmid ks f n0 l0 j) ∧ Chg B Rob wo wi ∧ Cel wi d 38 [.int .i64 m.room, .slice A m.files.length cf, .slice lA m.l.length lc, .bool m.off, .bool m.plan.isSome, .int .i64 left, kv])
        (fun _ i _ => m.l.length - (Go.RowKit.intOf i).toNat)
      case atStart => exact ⟨0, Nat.zero_le _, rfl, rfl, by simpa [pmid, pass] using HR.out, Chg.refl _ _ _, HCEL.out⟩
      case round =>
        obtain ⟨i, hi, rfl, rfl, hRi, hgi, hci⟩ := hrel
        have HRI := Lib.hid hRi
        have HGI := Lib.hid hgi
        have HCI := Lib.hid hci
        have hfsi := HFS.out.chg hgi (fun _ _ => notRob_int)
        have HFSI := Lib.hid hfsi
        clear hRi hgi k1 k3 hfsi
        obtain ⟨k0, k1, k2, k3, k4, k5, k6⟩ := Cel.at7 hci
        clear k0 k3 k4 k5 k6 hci
        by_cases hjt : i < m.l.length
        · obtain ⟨x, hx⟩ : ∃ x, l0[i]? = some x := ⟨_, List.getElem?_eq_getElem (by rw [HLL.out]; exact hjt)⟩
          have hmx := pmid_at (ks := ks) (f := f) (n := n0) hx
          have hpl : (pmid ks f n0 l0 i).length = m.l.length := pmid_len.trans HLL.out
          obtain ⟨g, cap, hv, hgB, hgl⟩ : ∃ g cap, Value.slice lA m.l.length lc = .slice (some ⟨g, 0, none⟩) m.l.length cap ∧ B ≤ g ∧ g < wr.heap.size := by
            rcases HRI.out.cases with ⟨_, e⟩ | ⟨g, cap, e, h1, h2, _⟩
            · rw [e] at hpl; simp at hpl; omega
            · rw [hpl] at e; exact ⟨g, cap, e, h1, h2⟩
          cases hv
          have hr : Rl wr B (.slice (some ⟨g, 0, none⟩) (pmid ks f n0 l0 i).length lc) (pmid ks f n0 l0 i) := by rw [hpl]; exact HRI.out
          obtain ⟨q0, q1, q2⟩ := hr.cell hmx
          obtain ⟨ad, hA, _, hcf0⟩ := HFSI.out (by omega)
          subst hA
          have hcf := hcf0 k f HF0.out
          have HPL := Lib.hid hpl
          clear hcf0 hpl
          have hut := rows_take (f := f) hx
          have hu := uns_le (rows f (l0.take i))
          have hu1 := rows_len f (l0.take i)
          have hu2 : (l0.take i).length ≤ i := List.length_take_le _ _
          obtain ⟨u, hu3⟩ : ∃ u, u = n0 + uns (rows f (l0.take i)) := ⟨_, rfl⟩
          rw [← hu3]
          have hu4 : u ≤ 2000 := by omega
          have HHR := Lib.hid hr
          have HMX := Lib.hid hmx
          have HX0 := Lib.hid hx
          have HUT := Lib.hid hut
          have HU3 := Lib.hid hu3
          clear hr hmx hx hu hu1 hu2 hut hu3
          have HSAME : ¬ (x.file = f ∧ x.s = false) → Rl wr B (.slice (some ⟨g, 0, none⟩) m.l.length lc) (pmid ks f n0 l0 (i + 1)) ∧ n0 + uns (rows f (l0.take (i + 1))) = u := fun hno => by
            have hm := pmid_same (ks := ks) (n := n0) HX0.out (pass_other hno)
            rw [← hm]
            refine ⟨HRI.out, ?_⟩
            rw [HUT.out, if_neg hno, HU3.out, Nat.add_zero]
          have HSM := Lib.hid HSAME
          clear HSAME
          by_cases hxf : x.file = f
          · subst hxf
            cases hs : x.s
            · rw [hs] at q2
              have HS := Lib.hid hs
              clear hs
              have hun : n0 + uns (rows x.file (l0.take (i + 1))) = u + 1 := by rw [HUT.out, if_pos ⟨rfl, HS.out⟩, HU3.out]; omega
              have HUN := Lib.hid hun
              clear hun
              go_wp2_with fail
              go_quiet (fail)
              have hRW : Rl (wr.drewN nq) B (.slice (some ⟨g, 0, none⟩) m.l.length lc) (pmid ks x.file n0 l0 i) := HRI.out
              have hCW : Cel (wr.drewN nq) d 38 [.int .i64 m.room, .slice (some ad) m.files.length cf, .slice (some ⟨g, 0, none⟩) m.l.length lc, .bool m.off, .bool m.plan.isSome, .int .i64 left, kv] := HCI.out
              have hGW : Chg B Rob wo (wr.drewN nq) := HGI.out.drewN nq
              clear q0 q1 q2 k1 k2 hcf
              generalize wr.drewN nq = W at *
              have HRW := Lib.hid hRW
              have HCW := Lib.hid hCW
              have HGW := Lib.hid hGW
              have hrW : Rl W B (.slice (some ⟨g, 0, none⟩) (pmid ks x.file n0 l0 i).length lc) (pmid ks x.file n0 l0 i) := by rw [HPL.out]; exact hRW
              obtain ⟨q0, q1, q2⟩ := hrW.cell HMX.out
              rw [HS.out] at q2
              have k2 := hCW.cell 2
              have hfz := World.ownsRow.frozenAt hrW (i * 3 + 2)
              have hend : ∀ (w2 : World) (l2 : List Cl) (c2 y : Cl), Rl w2 B (.slice (some ⟨g, 0, none⟩) m.l.length lc) l2 → l2.length = m.l.length → l2[i]? = some c2 → c2.cells.set 2 (.bool true) = y.cells → l2.set i y = pmid ks x.file n0 l0 (i + 1) → Chg B Rob wo w2 → Cel w2 d 38 [.int .i64 m.room, .slice (some ad) m.files.length cf, .slice (some ⟨g, 0, none⟩) m.l.length lc, .bool m.off, .bool m.plan.isSome, .int .i64 left, kv] →
                  Rl (w2.setCell ⟨g, i * 3 + 2, none⟩ (.bool true)) B (.slice (some ⟨g, 0, none⟩) m.l.length lc) (pmid ks x.file n0 l0 (i + 1)) ∧ Chg B Rob wo (w2.setCell ⟨g, i * 3 + 2, none⟩ (.bool true)) ∧ Cel (w2.setCell ⟨g, i * 3 + 2, none⟩ (.bool true)) d 38 [.int .i64 m.room, .slice (some ad) m.files.length cf, .slice (some ⟨g, 0, none⟩) m.l.length lc, .bool m.off, .bool m.plan.isSome, .int .i64 left, kv] := by
                intro w2 l2 c2 y h1 h2 h3 h4 h5 h6 h7
                have h1' : Rl w2 B (.slice (some ⟨g, 0, none⟩) l2.length lc) l2 := by rw [h2]; exact h1
                obtain ⟨z1, z2⟩ := h1'.set h3 (by omega : 2 < 3) (.bool true) y h4
                rw [h5, h2] at z1
                exact ⟨z1, h6.trans (h1.chgd z2), h7.far (h1.apart h7) _⟩
              have HEND := Lib.hid hend
              clear hend
              have HRW' := Lib.hid hrW
              clear hRW hGW hrW hCW
              by_cases hge : ks.length ≤ u
              · have hkd : ks.getD u false = false := by rw [List.getD_eq_getElem?_getD, List.getElem?_eq_none hge]; rfl
                have HKD := Lib.hid hkd
                clear hkd
                go_wp2_with fail
                refine wp_region_N [8] (Below W.heap.size W) (by kernel_rfl) ?_
                have hH : Below W.heap.size W W.drew := (Below.refl _ _).drew
                have hlv : ∀ V, Below W.heap.size W V → V.cell? ⟨d, 2, none⟩ = some (.slice (some ⟨g, 0, none⟩) m.l.length lc) := fun V hV => (Cel.below HCW.out hV HCW.out.lt).cell 2
                refine wpAnyN_take (i := 0) (v := .pointer (some ⟨d, 0, none⟩)) [1, 2, 3, 6, 7, 8] (by kernel_rfl) rfl (by kernel_rfl) (by kernel_rfl) (by kernel_rfl) (fun _ _ _ h => h) (Or.inl ⟨by rfl, ?_⟩) hH ?_
                · intro V hV; go_simp
                try simp only [Act.put, List.setIfInBounds_toArray, List.set_cons_zero, List.set_cons_succ, List.getElem_toArray, List.getElem_cons_succ, List.getElem_cons_zero]
                refine wpAnyN_take (i := 1) (v := .pointer (some ⟨d, 0, none⟩)) [2, 3, 6, 7, 8] (by kernel_rfl) rfl (by kernel_rfl) (by kernel_rfl) (by kernel_rfl) (fun _ _ _ h => h) (Or.inl ⟨by rfl, ?_⟩) hH ?_
                · intro V hV; go_simp
                try simp only [Act.put, List.setIfInBounds_toArray, List.set_cons_zero, List.set_cons_succ, List.getElem_toArray, List.getElem_cons_succ, List.getElem_cons_zero]
                refine wpAnyN_take (i := 2) (v := .pointer (some ⟨d, 2, none⟩)) [3, 6, 7, 8] (by kernel_rfl) rfl (by kernel_rfl) (by kernel_rfl) (by kernel_rfl) (fun _ _ _ h => h) (Or.inl ⟨by rfl, ?_⟩) hH ?_
                · intro V hV; go_simp
                try simp only [Act.put, List.setIfInBounds_toArray, List.set_cons_zero, List.set_cons_succ, List.getElem_toArray, List.getElem_cons_succ, List.getElem_cons_zero]
                refine wpAnyN_take (i := 3) (v := .slice (some ⟨g, 0, none⟩) m.l.length lc) [6, 7, 8] (by kernel_rfl) rfl (by kernel_rfl) (by kernel_rfl) (by kernel_rfl) (fun _ _ _ h => h) (Or.inl ⟨by rfl, ?_⟩) hH ?_
                · intro V hV; have k := hlv V hV; go_simp
                try simp only [Act.put, List.setIfInBounds_toArray, List.set_cons_zero, List.set_cons_succ, List.getElem_toArray, List.getElem_cons_succ, List.getElem_cons_zero]
                refine wpAnyN_take (i := 4) (v := .int .i64 i) [6, 7, 8] (by kernel_rfl) rfl (by kernel_rfl) (by kernel_rfl) (by kernel_rfl) (fun _ _ _ h => h) (Or.inl ⟨by rfl, ?_⟩) hH ?_
                · intro V hV; go_simp
                try simp only [Act.put, List.setIfInBounds_toArray, List.set_cons_zero, List.set_cons_succ, List.getElem_toArray, List.getElem_cons_succ, List.getElem_cons_zero]
                refine wpAnyN_one (i := 5) (by kernel_rfl) rfl (fun K hK => ?_)
                go_simp
                refine (zeros_ok _).mono ?_
                rintro e w2 ⟨rfl, hb2⟩
                have hH2 : Below W.heap.size W w2 := hH.trans (hb2.mono hH.size)
                go_wp2_with fail
                refine hK.out _ _ (.inr hH2) ?_
                clear hK K
                try simp only [Act.put, List.setIfInBounds_toArray, List.set_cons_zero, List.set_cons_succ, List.getElem_toArray, List.getElem_cons_succ, List.getElem_cons_zero]
                have hr2 : Rl w2 B (.slice (some ⟨g, 0, none⟩) m.l.length lc) (pmid ks x.file n0 l0 i) := HRW.out.chg (B' := 0) (T := fun _ => False) (Chg.of_below hH2) (fun _ _ h => h)
                have hc2 := Cel.below HCW.out hH2 HCW.out.lt
                have hr2' : Rl w2 B (.slice (some ⟨g, 0, none⟩) (pmid ks x.file n0 l0 i).length lc) (pmid ks x.file n0 l0 i) := by rw [HPL.out]; exact hr2
                obtain ⟨p0, p1, p2⟩ := hr2'.cell HMX.out
                have pf := World.ownsRow.frozenAt hr2' (i * 3 + 1)
                obtain ⟨z1, z2⟩ := hr2'.set HMX.out (by omega : 1 < 3) (.string (str zeros)) ⟨x.file, zeros, x.s⟩ rfl
                rw [HPL.out] at z1
                have hg3 : Chg B Rob wo (w2.setCell ⟨g, i * 3 + 1, none⟩ (.string (str zeros))) := (HGW.out.call hH2).trans (hr2.chgd z2)
                have hc3 : Cel (w2.setCell ⟨g, i * 3 + 1, none⟩ (.string (str zeros))) d 38 [.int .i64 m.room, .slice (some ad) m.files.length cf, .slice (some ⟨g, 0, none⟩) m.l.length lc, .bool m.off, .bool m.plan.isSome, .int .i64 left, kv] := by
                  exact hc2.far (hr2.apart hc2) _
                refine wpAnyN_one (i := 6) (by kernel_rfl) rfl (fun K hK => ?_)
                go_simp
                refine hK.out _ _ (.inr hH2) ?_
                clear hK K
                try simp only [Act.put, List.setIfInBounds_toArray, List.set_cons_zero, List.set_cons_succ, List.getElem_toArray, List.getElem_cons_succ, List.getElem_cons_zero]
                refine wpAnyN_one (i := 7) (by kernel_rfl) rfl (fun K hK => ?_)
                go_simp
                refine hK.out _ _ (.inr hH2) ?_
                clear hK K
                try simp only [Act.put, List.setIfInBounds_toArray, List.set_cons_zero, List.set_cons_succ, List.getElem_toArray, List.getElem_cons_succ, List.getElem_cons_zero]
                refine wpAnyN_one (i := 8) (by kernel_rfl) rfl (fun K hK => ?_)
                go_simp
                refine hK.out _ _ (.inl (by decide)) ?_
                clear hK K
                refine wpAnyN_done (by kernel_rfl) ?_ _
                have HZ1 := Lib.hid z1
                have HG3 := Lib.hid hg3
                have HC3 := Lib.hid hc3
                have b2 := hc3.cell 2
                have hl3 : ((pmid ks x.file n0 l0 i).set i ⟨x.file, zeros, x.s⟩)[i]? = some ⟨x.file, zeros, x.s⟩ := by rw [List.getElem?_set, if_pos rfl, if_pos (by rw [HPL.out]; exact hjt)]
                have z1' : Rl (w2.setCell ⟨g, i * 3 + 1, none⟩ (.string (str zeros))) B (.slice (some ⟨g, 0, none⟩) ((pmid ks x.file n0 l0 i).set i ⟨x.file, zeros, x.s⟩).length lc) ((pmid ks x.file n0 l0 i).set i ⟨x.file, zeros, x.s⟩) := by rw [List.length_set, HPL.out]; exact z1
                obtain ⟨_, _, b3⟩ := z1'.cell hl3
                have bz := World.ownsRow.frozenAt z1' (i * 3 + 2)
                have HL3 := Lib.hid hl3
                clear z1 z1' z2 hg3 hc3 hc2 hr2 hr2' p0 p1 p2 pf hl3 hH hH2 hlv
                generalize w2.setCell ⟨g, i * 3 + 1, none⟩ (.string (str zeros)) = W3 at *
                go_wp2_with fail
                have hph : pass ks x.file (n0 + uns (rows x.file (l0.take i))) [x] = [⟨x.file, zeros, true⟩] := by rw [pass_hit ⟨rfl, HS.out⟩, ← HU3.out, HKD.out]; rfl
                obtain ⟨z1, z2, z3⟩ := HEND.out W3 _ ⟨x.file, zeros, x.s⟩ ⟨x.file, zeros, true⟩ HZ1.out (by rw [List.length_set]; exact HPL.out) HL3.out rfl (by rw [List.set_set]; exact pmid_set HX0.out _ hph) HG3.out HC3.out
                go_roundw
                case rel => exact ⟨i + 1, by omega, by go_num, by rw [HUN.out]; go_num, z1, z2, z3⟩
                case measure => simp [Go.RowKit.intOf]; omega
              · obtain ⟨kd, hA, _, hkc0⟩ := HKN.out (by omega)
                subst hA
                obtain ⟨kb, hkb⟩ : ∃ kb, ks[u]? = some kb := ⟨_, List.getElem?_eq_getElem (by omega)⟩
                have hkd : ks.getD u false = kb := by rw [List.getD_eq_getElem?_getD, hkb]; rfl
                have hkr : Bo W B (.slice (some kd) ks.length kc) ks := HK.out.chg (HCH.out.trans HGW.out) (fun _ _ => notRob_bool)
                have hkcell : W.cell? (kd.add u) = some (.bool kb) := by
                  obtain ⟨A, c, e, _, h0⟩ := hkr
                  cases e
                  obtain ⟨ad', e2, _, h1⟩ := h0 (by omega)
                  cases e2
                  exact h1 u kb hkb
                have HKD := Lib.hid hkd
                clear hkd hkb hkc0 hkr
                cases kb
                · go_wp2_with fail
                  refine wp_region_N [8] (Below W.heap.size W) (by kernel_rfl) ?_
                  have hH : Below W.heap.size W W.drew := (Below.refl _ _).drew
                  have hlv : ∀ V, Below W.heap.size W V → V.cell? ⟨d, 2, none⟩ = some (.slice (some ⟨g, 0, none⟩) m.l.length lc) := fun V hV => (Cel.below HCW.out hV HCW.out.lt).cell 2
                  refine wpAnyN_take (i := 0) (v := .pointer (some ⟨d, 0, none⟩)) [1, 2, 3, 6, 7, 8] (by kernel_rfl) rfl (by kernel_rfl) (by kernel_rfl) (by kernel_rfl) (fun _ _ _ h => h) (Or.inl ⟨by rfl, ?_⟩) hH ?_
                  · intro V hV; go_simp
                  try simp only [Act.put, List.setIfInBounds_toArray, List.set_cons_zero, List.set_cons_succ, List.getElem_toArray, List.getElem_cons_succ, List.getElem_cons_zero]
                  refine wpAnyN_take (i := 1) (v := .pointer (some ⟨d, 0, none⟩)) [2, 3, 6, 7, 8] (by kernel_rfl) rfl (by kernel_rfl) (by kernel_rfl) (by kernel_rfl) (fun _ _ _ h => h) (Or.inl ⟨by rfl, ?_⟩) hH ?_
                  · intro V hV; go_simp
                  try simp only [Act.put, List.setIfInBounds_toArray, List.set_cons_zero, List.set_cons_succ, List.getElem_toArray, List.getElem_cons_succ, List.getElem_cons_zero]
                  refine wpAnyN_take (i := 2) (v := .pointer (some ⟨d, 2, none⟩)) [3, 6, 7, 8] (by kernel_rfl) rfl (by kernel_rfl) (by kernel_rfl) (by kernel_rfl) (fun _ _ _ h => h) (Or.inl ⟨by rfl, ?_⟩) hH ?_
                  · intro V hV; go_simp
                  try simp only [Act.put, List.setIfInBounds_toArray, List.set_cons_zero, List.set_cons_succ, List.getElem_toArray, List.getElem_cons_succ, List.getElem_cons_zero]
                  refine wpAnyN_take (i := 3) (v := .slice (some ⟨g, 0, none⟩) m.l.length lc) [6, 7, 8] (by kernel_rfl) rfl (by kernel_rfl) (by kernel_rfl) (by kernel_rfl) (fun _ _ _ h => h) (Or.inl ⟨by rfl, ?_⟩) hH ?_
                  · intro V hV; have k := hlv V hV; go_simp
                  try simp only [Act.put, List.setIfInBounds_toArray, List.set_cons_zero, List.set_cons_succ, List.getElem_toArray, List.getElem_cons_succ, List.getElem_cons_zero]
                  refine wpAnyN_take (i := 4) (v := .int .i64 i) [6, 7, 8] (by kernel_rfl) rfl (by kernel_rfl) (by kernel_rfl) (by kernel_rfl) (fun _ _ _ h => h) (Or.inl ⟨by rfl, ?_⟩) hH ?_
                  · intro V hV; go_simp
                  try simp only [Act.put, List.setIfInBounds_toArray, List.set_cons_zero, List.set_cons_succ, List.getElem_toArray, List.getElem_cons_succ, List.getElem_cons_zero]
                  refine wpAnyN_one (i := 5) (by kernel_rfl) rfl (fun K hK => ?_)
                  go_simp
                  refine (zeros_ok _).mono ?_
                  rintro e w2 ⟨rfl, hb2⟩
                  have hH2 : Below W.heap.size W w2 := hH.trans (hb2.mono hH.size)
                  go_wp2_with fail
                  refine hK.out _ _ (.inr hH2) ?_
                  clear hK K
                  try simp only [Act.put, List.setIfInBounds_toArray, List.set_cons_zero, List.set_cons_succ, List.getElem_toArray, List.getElem_cons_succ, List.getElem_cons_zero]
                  have hr2 : Rl w2 B (.slice (some ⟨g, 0, none⟩) m.l.length lc) (pmid ks x.file n0 l0 i) := HRW.out.chg (B' := 0) (T := fun _ => False) (Chg.of_below hH2) (fun _ _ h => h)
                  have hc2 := Cel.below HCW.out hH2 HCW.out.lt
                  have hr2' : Rl w2 B (.slice (some ⟨g, 0, none⟩) (pmid ks x.file n0 l0 i).length lc) (pmid ks x.file n0 l0 i) := by rw [HPL.out]; exact hr2
                  obtain ⟨p0, p1, p2⟩ := hr2'.cell HMX.out
                  have pf := World.ownsRow.frozenAt hr2' (i * 3 + 1)
                  obtain ⟨z1, z2⟩ := hr2'.set HMX.out (by omega : 1 < 3) (.string (str zeros)) ⟨x.file, zeros, x.s⟩ rfl
                  rw [HPL.out] at z1
                  have hg3 : Chg B Rob wo (w2.setCell ⟨g, i * 3 + 1, none⟩ (.string (str zeros))) := (HGW.out.call hH2).trans (hr2.chgd z2)
                  have hc3 : Cel (w2.setCell ⟨g, i * 3 + 1, none⟩ (.string (str zeros))) d 38 [.int .i64 m.room, .slice (some ad) m.files.length cf, .slice (some ⟨g, 0, none⟩) m.l.length lc, .bool m.off, .bool m.plan.isSome, .int .i64 left, kv] := by
                    exact hc2.far (hr2.apart hc2) _
                  refine wpAnyN_one (i := 6) (by kernel_rfl) rfl (fun K hK => ?_)
                  go_simp
                  refine hK.out _ _ (.inr hH2) ?_
                  clear hK K
                  try simp only [Act.put, List.setIfInBounds_toArray, List.set_cons_zero, List.set_cons_succ, List.getElem_toArray, List.getElem_cons_succ, List.getElem_cons_zero]
                  refine wpAnyN_one (i := 7) (by kernel_rfl) rfl (fun K hK => ?_)
                  go_simp
                  refine hK.out _ _ (.inr hH2) ?_
                  clear hK K
                  try simp only [Act.put, List.setIfInBounds_toArray, List.set_cons_zero, List.set_cons_succ, List.getElem_toArray, List.getElem_cons_succ, List.getElem_cons_zero]
                  refine wpAnyN_one (i := 8) (by kernel_rfl) rfl (fun K hK => ?_)
                  go_simp
                  refine hK.out _ _ (.inl (by decide)) ?_
                  clear hK K
                  refine wpAnyN_done (by kernel_rfl) ?_ _
                  have HZ1 := Lib.hid z1
                  have HG3 := Lib.hid hg3
                  have HC3 := Lib.hid hc3
                  have b2 := hc3.cell 2
                  have hl3 : ((pmid ks x.file n0 l0 i).set i ⟨x.file, zeros, x.s⟩)[i]? = some ⟨x.file, zeros, x.s⟩ := by rw [List.getElem?_set, if_pos rfl, if_pos (by rw [HPL.out]; exact hjt)]
                  have z1' : Rl (w2.setCell ⟨g, i * 3 + 1, none⟩ (.string (str zeros))) B (.slice (some ⟨g, 0, none⟩) ((pmid ks x.file n0 l0 i).set i ⟨x.file, zeros, x.s⟩).length lc) ((pmid ks x.file n0 l0 i).set i ⟨x.file, zeros, x.s⟩) := by rw [List.length_set, HPL.out]; exact z1
                  obtain ⟨_, _, b3⟩ := z1'.cell hl3
                  have bz := World.ownsRow.frozenAt z1' (i * 3 + 2)
                  have HL3 := Lib.hid hl3
                  clear z1 z1' z2 hg3 hc3 hc2 hr2 hr2' p0 p1 p2 pf hl3 hH hH2 hlv
                  generalize w2.setCell ⟨g, i * 3 + 1, none⟩ (.string (str zeros)) = W3 at *
                  go_wp2_with fail
                  have hph : pass ks x.file (n0 + uns (rows x.file (l0.take i))) [x] = [⟨x.file, zeros, true⟩] := by rw [pass_hit ⟨rfl, HS.out⟩, ← HU3.out, HKD.out]; rfl
                  obtain ⟨z1, z2, z3⟩ := HEND.out W3 _ ⟨x.file, zeros, x.s⟩ ⟨x.file, zeros, true⟩ HZ1.out (by rw [List.length_set]; exact HPL.out) HL3.out rfl (by rw [List.set_set]; exact pmid_set HX0.out _ hph) HG3.out HC3.out
                  go_roundw
                  case rel => exact ⟨i + 1, by omega, by go_num, by rw [HUN.out]; go_num, z1, z2, z3⟩
                  case measure => simp [Go.RowKit.intOf]; omega
                · go_wp2_with fail
                  have hph : pass ks x.file (n0 + uns (rows x.file (l0.take i))) [x] = [⟨x.file, x.b, true⟩] := by rw [pass_hit ⟨rfl, HS.out⟩, ← HU3.out, HKD.out]; rfl
                  obtain ⟨z1, z2, z3⟩ := HEND.out W _ x ⟨x.file, x.b, true⟩ HRW.out HPL.out HMX.out rfl (pmid_set HX0.out _ hph) HGW.out HCW.out
                  go_roundw
                  case rel => exact ⟨i + 1, by omega, by go_num, by rw [HUN.out]; go_num, z1, z2, z3⟩
                  case measure => simp [Go.RowKit.intOf]; omega
            · rw [hs] at q2
              have HS := Lib.hid hs
              clear hs
              go_wp2_with fail
              go_quiet (fail)
              go_wp2_with fail
              obtain ⟨z1, z2⟩ := HSM.out (by rintro ⟨_, h⟩; rw [HS.out] at h; cases h)
              go_roundw
              case rel => exact ⟨i + 1, by omega, by go_num, by rw [z2], z1, HGI.out.drewN nq, HCI.out⟩
              case measure => simp [Go.RowKit.intOf]; omega
          · have hq : (x.file == f) = false := by simpa using hxf
            have hq2 : (x.file != f) = true := by simpa using hxf
            go_wp2_with fail
            go_quiet (fail)
            go_wp2_with fail
            obtain ⟨z1, z2⟩ := HSM.out (fun h => hxf h.1)
            go_roundw
            case rel => exact ⟨i + 1, by omega, by go_num, by rw [z2], z1, HGI.out.drewN nq, HCI.out⟩
            case measure => simp [Go.RowKit.intOf]; omega
        · obtain rfl : i = m.l.length := by omega
          go_wp2_with fail
          obtain ⟨q1, q2⟩ := lostK_succ (ks := ks) HF0.out
          have ht : l0.take m.l.length = l0 := by rw [← HLL.out, List.take_length]
          have hpm : pmid ks f n0 l0 m.l.length = (lostK m ks (k + 1)).l := by
            unfold pmid
            rw [ht, List.drop_eq_nil_of_le (by rw [HLL.out]; exact Nat.le_refl _), List.append_nil, q1, ← HL0.out, ← HN0.out]
          go_roundw
          case rel => exact ⟨k + 1, by omega, by go_num, by rw [ht, q2, ← HL0.out, ← HN0.out], by rw [← hpm]; exact HRI.out, HCH.out.trans HGI.out, HCI.out⟩
          case measure => simp [Go.RowKit.intOf]; omega
    · obtain rfl : k = m.files.length := by omega
      obtain ⟨k0, k1, k2, k3, k4, k5, k6⟩ := Cel.at7 HCEL.out
      have f3 := HCEL.out.free 3
      have f4 := HCEL.out.free 4
      have hg := (grown_setCell wr ⟨d, 3, none⟩ (.bool true)).andThen (grown_setCell _ ⟨d, 4, none⟩ (.bool false)) (fun j hj => .inr hj)
      have hc := (HCEL.out.set 3 (.bool true)).set 4 (.bool false)
      have hch : Chg B Rob wr ((wr.setCell ⟨d, 3, none⟩ (.bool true)).setCell ⟨d, 4, none⟩ (.bool false)) :=
        (Chg.refl B Rob wr).grown hg fun g e => by cases e; exact .inr ⟨H.out.own, _, HCEL.out, .inl rfl⟩
      have hrl : Rl ((wr.setCell ⟨d, 3, none⟩ (.bool true)).setCell ⟨d, 4, none⟩ (.bool false)) B (.slice lA m.l.length lc) (lost m ks).l := by
        have e : (lost m ks).l = (lostK m ks m.files.length).l := by rw [← lostK_end]
        rw [e]
        refine World.ownsRow.kept HRL.out hg ?_
        rcases HRL.out.cases with ⟨e, _⟩ | ⟨g, cap, e, _, _, cur, hb⟩
        · rw [e]; exact .inl rfl
        · rw [e]
          refine .inr fun e' => ?_
          cases e'
          have := HCEL.out
          unfold Cel at this
          rw [hb] at this
          simp at this
      have HC2 := Lib.hid hc
      have HCH2 := Lib.hid hch
      have HRL2 := Lib.hid hrl
      clear hg hc hch hrl k0 k2 k5 k6
      go_wp2_with fail
      go_end0
      exact ⟨rfl, ⟨A, cf, _, kv, left, H.out.inv.lost ks, HC2.out, H.out.own, H.out.cap, HFS.out.chg HCH2.out (fun _ _ => notRob_int), HRL2.out, by simp [lost]⟩, HCH.out.trans HCH2.out⟩

set_option maxRecDepth 100000 in
set_option maxHeartbeats 1000000 in
theorem rcrash_off (w : World) (B d : Nat) (m : M) (keepV : Value) (h : Fk w B d m) (ho : m.off = true) :
    Calls Tryz.prog 20 #[.pointer (some ⟨d, 0, none⟩), keepV] w (RDone w B d m) := by
  have H := Lib.hid h
  obtain ⟨A, c, lv, kv, left, h⟩ := h
  have k3 := h.cel.cell 3
  rw [ho] at k3
  clear h ho
  go_enter Tryz.func20, Tryz.ntmps20
  go_wp2_with fail
  exact bodyPost_ret (results_none rfl _ _ _) rfl ⟨rfl, H.out, Chg.refl _ _ _⟩
theorem rcrash_ok (w : World) (B d : Nat) (m : M) (keepV : Value) (ks : List Bool) (h : Fk w B d m) (hB : B ≤ w.heap.size) (hk : Bo w B keepV ks) (hks : ks.length ≤ maxLen) :
    Calls Tryz.prog 20 #[.pointer (some ⟨d, 0, none⟩), keepV] w (RDone w B d (crash m ks)) := by
  unfold crash
  cases ho : m.off
  · obtain ⟨A, c, lv, kv, left, h⟩ := h
    rw [if_neg (by simp)]
    exact rcrash_on w B d m A c lv kv left keepV ks h hB hk hks ho
  · rw [if_pos rfl]
    exact rcrash_off w B d m keepV h ho

/-- The answer of the document's disk, and what it is then. -/
def RDid (w : World) (B d : Nat) (v : Value) (m : M) (r : Ending) (w' : World) : Prop := r = .returned v ∧ Fk w' B d m ∧ Chg B Rob w w'

set_option maxRecDepth 100000 in
set_option maxHeartbeats 1000000 in
theorem rfails_ok (w : World) (B d : Nat) (m : M) (h : Fk w B d m) (hB : B ≤ w.heap.size) (ho : m.off = false) (hpl : ∀ k ks, m.plan = some (k, ks) → ks.length ≤ maxLen) :
    Calls Tryz.prog 53 #[.pointer (some ⟨d, 0, none⟩)] w (RDid w B d (.bool (fails m)) (stepped m)) := by
  obtain ⟨A, c, lv, kv, left, h⟩ := h
  obtain ⟨k0, k1, k2, k3, k4, k5, k6⟩ := Cel.at7 h.cel
  have f5 := h.cel.free 5
  cases hp : m.plan with
  | none =>
    rw [hp] at k4
    simp only [Option.isSome_none] at k4
    have hf : fails m = false := by unfold fails; rw [hp]
    rw [hf, stepped_none hp]
    have hg := grown_setCell w ⟨d, 5, none⟩ (.int .i64 (wrap64 (left - 1)))
    have hc := h.cel.set 5 (.int .i64 (wrap64 (left - 1)))
    have hch := h.chgHead hg
    have hx : Fv (w.setCell ⟨d, 5, none⟩ (.int .i64 (wrap64 (left - 1)))) B d m A c lv kv (wrap64 (left - 1)) :=
      ⟨h.inv, hc, h.own, h.cap, h.files.chg hch (fun _ _ => notRob_int), h.rowHead hg h.row, fun k ks e => by rw [hp] at e; cases e⟩
    have HX := Lib.hid hx
    have HCH := Lib.hid hch
    clear h hg hc hch hx k0 k1 k2 k3 k6 hp hf hpl
    go_enter Tryz.func53, Tryz.ntmps53
    go_wp2_with fail
    go_ret
    exact ⟨rfl, ⟨_, _, _, _, _, HX.out⟩, HCH.out⟩
  | some p =>
    obtain ⟨n, ks⟩ := p
    rw [hp] at k4
    simp only [Option.isSome_some] at k4
    obtain ⟨hl, hkv⟩ := h.plan n ks hp
    subst hl
    cases n with
    | zero =>
      have hf : fails m = true := fails_iff.2 ⟨ks, hp⟩
      have con := rcrash_ok w B d m kv ks ⟨_, _, _, _, _, h⟩ hB hkv (hpl _ _ hp)
      rw [hf, stepped_fails hp]
      unfold crash at con
      rw [ho, if_neg (by simp)] at con
      clear h k0 k1 k2 k3 hp hf hpl hkv ho f5
      go_enter Tryz.func53, Tryz.ntmps53
      go_wp2_with (first | (go_at_call 20; refine con.mono ?_; rintro e w' ⟨rfl, h1, h2⟩))
      go_ret
      exact ⟨rfl, h1, h2⟩
    | succ n =>
      have hf : fails m = false := by
        cases hx : fails m
        · rfl
        · obtain ⟨k, e⟩ := fails_iff.1 hx; rw [hp] at e; cases e
      have hbd := h.inv.plan _ _ hp
      rw [hf, stepped_more hp]
      have hg := grown_setCell w ⟨d, 5, none⟩ (.int .i64 n)
      have hc := h.cel.set 5 (.int .i64 n)
      have hch := h.chgHead hg
      have hi := h.inv.stepped
      rw [stepped_more hp] at hi
      have hx : Fv (w.setCell ⟨d, 5, none⟩ (.int .i64 n)) B d { m with plan := some (n, ks) } A c lv kv n :=
        ⟨hi, by rw [hp] at hc; exact hc, h.own, h.cap, h.files.chg hch (fun _ _ => notRob_int), h.rowHead hg h.row, fun k l e => by cases e; exact ⟨rfl, hkv.chg hch (fun _ _ => notRob_bool)⟩⟩
      have HX := Lib.hid hx
      have HCH := Lib.hid hch
      have hq1 : ((((n + 1 : Nat) : Int)) == 0) = false := by simp; omega
      have en : IntKind.i64.wrap (((n + 1 : Nat) : Int) - 1) = (n : Int) := by rw [show ((n + 1 : Nat) : Int) - 1 = (n : Int) by omega]; exact IntWalk.i64_in _ (by omega)
      clear h hg hc hch hx k0 k1 k2 k3 k6 hp hf hpl hi hkv ho
      go_enter Tryz.func53, Tryz.ntmps53
      go_wp2_with fail
      go_ret
      exact ⟨rfl, ⟨_, _, _, _, _, HX.out⟩, HCH.out⟩
end Go.Proofs.YtdaknfepcbooeaaGreat.Disk
end

section
namespace Go.Proofs.YtdaknfepcbooeaaGreat.Disk
open Go.RowKit Go.Proofs.YtdaknfepcbooeaaGreat.Ord
set_option linter.unusedVariables false
set_option linter.unusedSimpArgs false

/-- The document's disk in block d has what m has, whatever that is. -/
structure Fw (w : World) (B d : Nat) (m : M) (A : Option Addr) (c : Nat) (lv kv : Value) (left : Int) : Prop where
  cel : Cel w d 38 [.int .i64 m.room, .slice A m.files.length c, lv, .bool m.off, .bool m.plan.isSome, .int .i64 left, kv]
  own : B ≤ d
  cap : m.files.length ≤ c
  files : Is w A m.files
  row : Rl w B lv m.l
  plan : ∀ k ks, m.plan = some (k, ks) → left = k ∧ Bo w B kv ks
theorem Fv.fw {w : World} {B d : Nat} {m : M} {A : Option Addr} {c : Nat} {lv kv : Value} {left : Int} (h : Fv w B d m A c lv kv left) : Fw w B d m A c lv kv left := ⟨h.cel, h.own, h.cap, h.files, h.row, h.plan⟩
theorem Fw.fv {w : World} {B d : Nat} {m : M} {A : Option Addr} {c : Nat} {lv kv : Value} {left : Int} (h : Fw w B d m A c lv kv left) (hi : Inv m) : Fv w B d m A c lv kv left := ⟨hi, h.cel, h.own, h.cap, h.files, h.row, h.plan⟩
def Fu (w : World) (B d : Nat) (m : M) : Prop := ∃ A c lv kv left, Fw w B d m A c lv kv left
theorem Fk.fu {w : World} {B d : Nat} {m : M} (h : Fk w B d m) : Fu w B d m := by obtain ⟨A, c, lv, kv, left, h⟩ := h; exact ⟨A, c, lv, kv, left, h.fw⟩
theorem Fu.fk {w : World} {B d : Nat} {m : M} (h : Fu w B d m) (hi : Inv m) : Fk w B d m := by obtain ⟨A, c, lv, kv, left, h⟩ := h; exact ⟨A, c, lv, kv, left, h.fv hi⟩
/-- A new row of files was stored. -/
theorem Fw.setFiles {w w1 : World} {B d : Nat} {m : M} {A : Option Addr} {c : Nat} {lv kv : Value} {left : Int} (h : Fw w B d m A c lv kv left) (hb : Below w.heap.size w w1) (A' : Option Addr) (c' base : Nat) (fs : List Int) (ho : w1.ownsRow base 3 1 (.slice A' fs.length c') fs.length (fs.map (Value.int .i64))) :
    Fw (w1.setCell ⟨d, 1, none⟩ (.slice A' fs.length c')) B d { m with files := fs } A' c' lv kv left ∧ Chg B Rob w (w1.setCell ⟨d, 1, none⟩ (.slice A' fs.length c')) := by
  have hc1 := Cel.below h.cel hb h.cel.lt
  have hg := grown_setCell w1 ⟨d, 1, none⟩ (.slice A' fs.length c')
  have hch : Chg B Rob w1 (w1.setCell ⟨d, 1, none⟩ (.slice A' fs.length c')) := (Chg.refl B Rob w1).grown hg fun g e => by cases e; exact .inr ⟨h.own, _, hc1, .inl rfl⟩
  have hrow : Rl w1 B lv m.l := h.row.chg (B' := 0) (T := fun _ => False) (Chg.of_below hb) (fun _ _ h => h)
  refine ⟨⟨hc1.set 1 _, h.own, ?_, (Is.of_own ho).chg hch (fun _ _ => notRob_int), ?_, fun k ks e => ⟨(h.plan k ks e).1, ((h.plan k ks e).2.below hb).chg hch (fun _ _ => notRob_bool)⟩⟩, (Chg.of_below hb).trans hch⟩
  · rcases ho.2 with ⟨e, h0⟩ | ⟨g, cap, cur, e, _, _, hcap, _⟩
    · show fs.length ≤ c'; omega
    · cases e; exact hcap
  · refine World.ownsRow.kept hrow hg ?_
    rcases hrow.cases with ⟨e, _⟩ | ⟨g, cap, e, _, _, cur, hb2⟩
    · rw [e]; exact .inl rfl
    · rw [e]
      refine .inr fun e' => ?_
      cases e'
      unfold Cel at hc1
      rw [hb2] at hc1
      simp at hc1

/-- A new row of sectors was stored. -/
theorem Fw.setRow {w w1 : World} {B d : Nat} {m : M} {A : Option Addr} {c : Nat} {lv kv : Value} {left : Int} (h : Fw w B d m A c lv kv left) (hb : Below w.heap.size w w1) (v : Value) (l : List Cl) (hr : Rl w1 B v l) :
    Fw (w1.setCell ⟨d, 2, none⟩ v) B d { m with l := l } A c v kv left ∧ Chg B Rob w (w1.setCell ⟨d, 2, none⟩ v) := by
  have hc1 := Cel.below h.cel hb h.cel.lt
  have hg := grown_setCell w1 ⟨d, 2, none⟩ v
  have hch : Chg B Rob w1 (w1.setCell ⟨d, 2, none⟩ v) := (Chg.refl B Rob w1).grown hg fun g e => by cases e; exact .inr ⟨h.own, _, hc1, .inl rfl⟩
  refine ⟨⟨hc1.set 2 _, h.own, h.cap, (h.files.below hb).chg hch (fun _ _ => notRob_int), ?_, fun k ks e => ⟨(h.plan k ks e).1, ((h.plan k ks e).2.below hb).chg hch (fun _ _ => notRob_bool)⟩⟩, (Chg.of_below hb).trans hch⟩
  refine World.ownsRow.kept hr hg ?_
  rcases hr.cases with ⟨e, _⟩ | ⟨g, cap, e, _, _, cur, hb2⟩
  · rw [e]; exact .inl rfl
  · rw [e]
    refine .inr fun e' => ?_
    cases e'
    unfold Cel at hc1
    rw [hb2] at hc1
    simp at hc1

theorem undI : Tryz.prog.underlying 34 = some (.slice 3) := by kernel_rfl
theorem infoI : (Tryz.prog.info? 3).map (fun i => (i.zero, i.size, i.bytes)) = some (some (.int .i64 0), 1, 8) := by kernel_rfl
theorem sizeI : (Tryz.prog.info? 3).map (·.size) = some 1 := by kernel_rfl
theorem intsT : ElemRow Tryz.prog 34 3 1 8 := ElemRow.mk' undI infoI rfl (by decide)
theorem undC : Tryz.prog.underlying 35 = some (.slice 85) := by kernel_rfl
theorem infoC : (Tryz.prog.info? 85).map (fun i => (i.zero, i.size, i.bytes)) = some (some (.agg #[.int .i64 0, .string ⟨#[]⟩, .bool false]), 3, 32) := by kernel_rfl
theorem cellsT : ElemRow Tryz.prog 35 85 3 32 := ElemRow.mk' undC infoC rfl (by decide)
theorem ints_one (fs : List Int) : ∀ u ∈ fs.map (Value.int .i64), u.oneCell' = true := by
  intro u hu; obtain ⟨x, _, rfl⟩ := List.mem_map.1 hu; rfl

/-- Where a file stands in the order. -/
theorem ins_at {f : Int} {fs : List Int} {k : Nat} (hk : k ≤ fs.length) (h1 : ∀ x ∈ fs.take k, x < f) (h2 : ∀ x, fs[k]? = some x → f < x) : ins f fs = fs.take k ++ f :: fs.drop k := by
  induction fs generalizing k with
  | nil => simp at hk; subst hk; rfl
  | cons g fs ih =>
    cases k with
    | zero =>
      have := h2 g rfl
      simp [ins, this]
    | succ k =>
      have hg := h1 g (by simp)
      unfold ins
      rw [if_neg (by omega), ih (by simpa using hk) (fun x hx => h1 x (by simp [hx])) (fun x hx => h2 x (by simpa using hx))]
      rfl
theorem without_at {f : Int} {fs : List Int} (hs : fs.Pairwise (· < ·)) (h : f ∈ fs) : without f fs = fs.take (fs.idxOf f) ++ fs.drop (fs.idxOf f + 1) := by
  induction fs with
  | nil => simp at h
  | cons g fs ih =>
    obtain ⟨h1, h2⟩ := List.pairwise_cons.1 hs
    by_cases hg : g = f
    · subst hg
      have hn : g ∉ fs := fun hm => by have := h1 g hm; omega
      rw [List.idxOf_cons_self, List.take_zero, List.nil_append, Nat.zero_add, List.drop_succ_cons, List.drop_zero]
      unfold without
      rw [List.filter_cons]
      simp
      exact fun a ha e => hn (e ▸ ha)
    · have hm : f ∈ fs := by rcases List.mem_cons.1 h with e | e; exact absurd e.symm hg; exact e
      have ei : (g :: fs).idxOf f = fs.idxOf f + 1 := by
        have : (g == f) = false := by simpa using hg
        rw [List.idxOf_cons, this]; rfl
      rw [ei, List.take_succ_cons, List.drop_succ_cons, List.cons_append, ← ih h2 hm]
      unfold without
      rw [List.filter_cons]
      simp [hg]
theorem idxOf_lt {f : Int} {fs : List Int} (h : f ∈ fs) : fs.idxOf f < fs.length := List.idxOf_lt_length_of_mem h

set_option maxRecDepth 100000 in
set_option maxHeartbeats 2000000 in
theorem rdropFiles (w : World) (B d : Nat) (m : M) (f : Int) (h : Fu w B d m) (hB : B ≤ w.heap.size) (hs : m.files.Pairwise (· < ·)) (hl : m.files.length ≤ 1000) (hll : m.l.length ≤ 1000) (hf : f ∈ m.files) :
    Calls Tryz.prog 103 #[.pointer (some ⟨d, 0, none⟩), .int .i64 f] w fun r w' => r = .returned (.tuple #[]) ∧ Fu w' B d { m with files := without f m.files, l := dropL f m.l } ∧ Chg B Rob w w' := by
  obtain ⟨A, c, lv, kv, left, h⟩ := h
  obtain ⟨k0, k1, k2, k3, k4, k5, k6⟩ := Cel.at7 h.cel
  obtain ⟨fs, hfs⟩ : ∃ fs, fs = m.files := ⟨_, rfl⟩
  have con := at_ok w d m.files f A c k1 h.files hl
  have e : atI f m.files = (m.files.idxOf f : Nat) := if_pos hf
  rw [e] at con
  have hk := idxOf_lt hf
  obtain ⟨k, hkk⟩ : ∃ k, k = m.files.idxOf f := ⟨_, rfl⟩
  rw [← hkk] at con hk
  have hw := without_at hs hf
  rw [← hkk, ← hfs] at hw
  rw [← hfs] at hk hl
  obtain ⟨ad, hA, _⟩ := h.files (by rw [← hfs]; omega)
  subst hA
  have hcel := h.cel
  have hcap := h.cap
  have hfi := h.files
  rw [← hfs] at hcel hcap hfi
  have H := Lib.hid h
  have HC := Lib.hid hcel
  have HCAP := Lib.hid hcap
  have HI := Lib.hid hfi
  have HFS := Lib.hid hfs
  have HWO := Lib.hid hw
  clear h hcel hfi hfs hw e hf hs k0 k1 k2 k3 k4 k5 k6 hkk
  go_enter Tryz.func103, Tryz.ntmps103
  go_wp2_with (first | (go_at_call 32; refine con.mono ?_; rintro e w' ⟨rfl, rfl⟩))
  clear con
  obtain ⟨W, rfl⟩ : ∃ W : World, W = w := ⟨_, rfl⟩
  obtain ⟨X, hX⟩ : ∃ X, X = if c = k + 1 then some ad else (some ad).map (·.add ((k + 1) * 1)) := ⟨_, rfl⟩
  have HX := Lib.hid hX
  clear hX
  refine wp_region_N [19] (Below W.heap.size W) (by kernel_rfl) ?_
  have hH : Below W.heap.size W W.drew := (Below.refl _ _).drew
  have hlv : ∀ V, Below W.heap.size W V → V.cell? ⟨d, 1, none⟩ = some (.slice (some ad) fs.length c) := fun V hV => (Cel.below HC.out hV HC.out.lt).cell 1
  refine wpAnyN_take (i := 0) (v := .pointer (some ⟨d, 0, none⟩)) [19] (by kernel_rfl) rfl (by kernel_rfl) (by kernel_rfl) (by kernel_rfl) (fun _ _ _ h => h) (Or.inl ⟨by rfl, ?_⟩) hH ?_
  · intro V hV; go_simp
  try simp only [Act.put, List.setIfInBounds_toArray, List.set_cons_zero, List.set_cons_succ, List.getElem_toArray, List.getElem_cons_succ, List.getElem_cons_zero]
  refine wpAnyN_take (i := 2) (v := .pointer (some ⟨d, 0, none⟩)) [19] (by kernel_rfl) rfl (by kernel_rfl) (by kernel_rfl) (by kernel_rfl) (fun _ _ _ h => h) (Or.inl ⟨by rfl, ?_⟩) hH ?_
  · intro V hV; go_simp
  try simp only [Act.put, List.setIfInBounds_toArray, List.set_cons_zero, List.set_cons_succ, List.getElem_toArray, List.getElem_cons_succ, List.getElem_cons_zero]
  refine wpAnyN_take (i := 3) (v := .pointer (some ⟨d, 0, none⟩)) [19] (by kernel_rfl) rfl (by kernel_rfl) (by kernel_rfl) (by kernel_rfl) (fun _ _ _ h => h) (Or.inl ⟨by rfl, ?_⟩) hH ?_
  · intro V hV; go_simp
  try simp only [Act.put, List.setIfInBounds_toArray, List.set_cons_zero, List.set_cons_succ, List.getElem_toArray, List.getElem_cons_succ, List.getElem_cons_zero]
  refine wpAnyN_take (i := 4) (v := .pointer (some ⟨d, 1, none⟩)) [19] (by kernel_rfl) rfl (by kernel_rfl) (by kernel_rfl) (by kernel_rfl) (fun _ _ _ h => h) (Or.inl ⟨by rfl, ?_⟩) hH ?_
  · intro V hV; go_simp
  try simp only [Act.put, List.setIfInBounds_toArray, List.set_cons_zero, List.set_cons_succ, List.getElem_toArray, List.getElem_cons_succ, List.getElem_cons_zero]
  refine wpAnyN_take (i := 5) (v := .slice (some ad) fs.length c) [19] (by kernel_rfl) rfl (by kernel_rfl) (by kernel_rfl) (by kernel_rfl) (fun _ _ _ h => h) (Or.inl ⟨by rfl, ?_⟩) hH ?_
  · intro V hV; have k := hlv V hV; go_simp
  try simp only [Act.put, List.setIfInBounds_toArray, List.set_cons_zero, List.set_cons_succ, List.getElem_toArray, List.getElem_cons_succ, List.getElem_cons_zero]
  refine wpAnyN_take (i := 6) (v := .int .i64 (k : Nat)) [19] (by kernel_rfl) rfl (by kernel_rfl) (by kernel_rfl) (by kernel_rfl) (fun _ _ _ h => h) (Or.inl ⟨by rfl, ?_⟩) hH ?_
  · intro V hV; go_simp
  try simp only [Act.put, List.setIfInBounds_toArray, List.set_cons_zero, List.set_cons_succ, List.getElem_toArray, List.getElem_cons_succ, List.getElem_cons_zero]
  refine wpAnyN_take (i := 7) (v := .slice (some ad) k c) [19] (by kernel_rfl) rfl (by kernel_rfl) (by kernel_rfl) (by kernel_rfl) (fun _ _ _ h => h) (yieldsIf_slice (by rfl) 34 (.tmp 17) none (some (.tmp 18)) none rfl _ (fun V => run_cutTo V undI sizeI (some ad) fs.length c k .i64 (by omega))) hH ?_
  try simp only [Act.put, List.setIfInBounds_toArray, List.set_cons_zero, List.set_cons_succ, List.getElem_toArray, List.getElem_cons_succ, List.getElem_cons_zero]
  refine wpAnyN_take (i := 9) (v := .pointer (some ⟨d, 0, none⟩)) [19] (by kernel_rfl) rfl (by kernel_rfl) (by kernel_rfl) (by kernel_rfl) (fun _ _ _ h => h) (Or.inl ⟨by rfl, ?_⟩) hH ?_
  · intro V hV; go_simp
  try simp only [Act.put, List.setIfInBounds_toArray, List.set_cons_zero, List.set_cons_succ, List.getElem_toArray, List.getElem_cons_succ, List.getElem_cons_zero]
  refine wpAnyN_take (i := 10) (v := .pointer (some ⟨d, 0, none⟩)) [19] (by kernel_rfl) rfl (by kernel_rfl) (by kernel_rfl) (by kernel_rfl) (fun _ _ _ h => h) (Or.inl ⟨by rfl, ?_⟩) hH ?_
  · intro V hV; go_simp
  try simp only [Act.put, List.setIfInBounds_toArray, List.set_cons_zero, List.set_cons_succ, List.getElem_toArray, List.getElem_cons_succ, List.getElem_cons_zero]
  refine wpAnyN_take (i := 11) (v := .pointer (some ⟨d, 1, none⟩)) [19] (by kernel_rfl) rfl (by kernel_rfl) (by kernel_rfl) (by kernel_rfl) (fun _ _ _ h => h) (Or.inl ⟨by rfl, ?_⟩) hH ?_
  · intro V hV; go_simp
  try simp only [Act.put, List.setIfInBounds_toArray, List.set_cons_zero, List.set_cons_succ, List.getElem_toArray, List.getElem_cons_succ, List.getElem_cons_zero]
  refine wpAnyN_take (i := 12) (v := .slice (some ad) fs.length c) [19] (by kernel_rfl) rfl (by kernel_rfl) (by kernel_rfl) (by kernel_rfl) (fun _ _ _ h => h) (Or.inl ⟨by rfl, ?_⟩) hH ?_
  · intro V hV; have k := hlv V hV; go_simp
  try simp only [Act.put, List.setIfInBounds_toArray, List.set_cons_zero, List.set_cons_succ, List.getElem_toArray, List.getElem_cons_succ, List.getElem_cons_zero]
  refine wpAnyN_take (i := 13) (v := .int .i64 (k : Nat)) [19] (by kernel_rfl) rfl (by kernel_rfl) (by kernel_rfl) (by kernel_rfl) (fun _ _ _ h => h) (Or.inl ⟨by rfl, ?_⟩) hH ?_
  · intro V hV; go_simp
  try simp only [Act.put, List.setIfInBounds_toArray, List.set_cons_zero, List.set_cons_succ, List.getElem_toArray, List.getElem_cons_succ, List.getElem_cons_zero]
  refine wpAnyN_take (i := 14) (v := .int .i64 ((k + 1 : Nat) : Int)) [19] (by kernel_rfl) rfl (by kernel_rfl) (by kernel_rfl) (by kernel_rfl) (fun _ _ _ h => h) (Or.inl ⟨by rfl, ?_⟩) hH ?_
  · intro V hV; have ew : IntKind.i64.wrap ((k : Int) + 1) = (k : Int) + 1 := (IntWalk.i64_in _ (by omega)); push_cast; go_simp
  try simp only [Act.put, List.setIfInBounds_toArray, List.set_cons_zero, List.set_cons_succ, List.getElem_toArray, List.getElem_cons_succ, List.getElem_cons_zero]
  refine wpAnyN_take (i := 15) (v := .slice X (fs.length - (k + 1)) (c - (k + 1))) [19] (by kernel_rfl) rfl (by kernel_rfl) (by kernel_rfl) (by kernel_rfl) (fun _ _ _ h => h) (yieldsIf_slice (by rfl) 34 (.tmp 24) (some (.tmp 26)) none none rfl _ (fun V => by rw [HX.out]; exact run_cutFrom V undI sizeI (some ad) fs.length c (k + 1) .i64 (by omega))) hH ?_
  try simp only [Act.put, List.setIfInBounds_toArray, List.set_cons_zero, List.set_cons_succ, List.getElem_toArray, List.getElem_cons_succ, List.getElem_cons_zero]
  refine wpAnyN_one (i := 1) (by kernel_rfl) rfl (fun K hK => ?_)
  go_simp
  refine hK.out _ _ (.inr (hH.alloc hH.size _)) ?_
  clear hK K
  try simp only [Act.put, List.setIfInBounds_toArray, List.set_cons_zero, List.set_cons_succ, List.getElem_toArray, List.getElem_cons_succ, List.getElem_cons_zero]
  have o0 : (W.drew.alloc (.cells #[] 3)).ownsRow W.heap.size 3 1 (.slice (some ⟨W.heap.size, 0, none⟩) 0 0) 0 [] := World.ownsRow_lit W.drew #[] 0 (Nat.le_refl _) (Nat.zero_le _) rfl
  have hB0 := hH.alloc hH.size (.cells #[] 3)
  have s0 := (HI.out.take k).below hB0
  refine wpAnyN_one (i := 8) (by kernel_rfl) rfl (fun K hK => ?_)
  rw [if_pos (by rfl)]
  refine wp_append_any _ (.tmp 13) (.tmp 19) 34 rfl W.heap.size 3 intsT _ 0 [] rfl o0 (some ad) k c ((fs.take k).map (Value.int .i64)) rfl (by rw [List.length_map, List.length_take]; omega) (by have := s0.src; rw [List.length_take, Nat.min_eq_left (by omega)] at this; exact this) (ints_one _) k _ (Nat.zero_add _) (List.nil_append _) (by unfold maxLen; omega) (by omega) hB0.size ?_
  intro A1 c1 w1 o1 g1 _
  have hb1 : Below W.heap.size W w1 := hB0.grown g1 hB0.size (by intro g hg; cases hg; exact Nat.le_refl _)
  refine hK.out _ _ (.inr hb1) ?_
  clear hK K
  try simp only [Act.put, List.setIfInBounds_toArray, List.set_cons_zero, List.set_cons_succ, List.getElem_toArray, List.getElem_cons_succ, List.getElem_cons_zero]
  have s1 := (HI.out.cut (k := k + 1) HCAP.out).below hb1
  refine wpAnyN_one (i := 16) (by kernel_rfl) rfl (fun K hK => ?_)
  rw [if_pos (by rfl)]
  refine wp_append_any _ (.tmp 20) (.tmp 27) 34 rfl W.heap.size 3 intsT _ k _ rfl o1 X (fs.length - (k + 1)) (c - (k + 1)) ((fs.drop (k + 1)).map (Value.int .i64)) rfl (by rw [List.length_map, List.length_drop, Nat.mul_one]) (by have := s1.src; rw [List.length_drop] at this; rw [HX.out, Nat.mul_one]; exact this) (ints_one _) (fs.length - 1) ((fs.take k ++ fs.drop (k + 1)).map (Value.int .i64)) (by omega) (by rw [List.map_append]) (by unfold maxLen; omega) (by omega) hb1.size ?_
  intro A2 c2 w2 o2 g2 _
  have hb2 : Below W.heap.size W w2 := hb1.grown g2 hb1.size (fun g hg => (World.ownsRow.lt o1 g hg).1)
  refine hK.out _ _ (.inr hb2) ?_
  clear hK K
  try simp only [Act.put, List.setIfInBounds_toArray, List.set_cons_zero, List.set_cons_succ, List.getElem_toArray, List.getElem_cons_succ, List.getElem_cons_zero]
  refine wpAnyN_one (i := 17) (by kernel_rfl) rfl (fun K hK => ?_)
  go_simp
  refine hK.out _ _ (.inr hb2) ?_
  clear hK K
  try simp only [Act.put, List.setIfInBounds_toArray, List.set_cons_zero, List.set_cons_succ, List.getElem_toArray, List.getElem_cons_succ, List.getElem_cons_zero]
  refine wpAnyN_one (i := 18) (by kernel_rfl) rfl (fun K hK => ?_)
  go_simp
  refine hK.out _ _ (.inr hb2) ?_
  clear hK K
  try simp only [Act.put, List.setIfInBounds_toArray, List.set_cons_zero, List.set_cons_succ, List.getElem_toArray, List.getElem_cons_succ, List.getElem_cons_zero]
  have hc2 := Cel.below HC.out hb2 HC.out.lt
  have e2 := hc2.cell 1
  have f2 := hc2.free 1
  refine wpAnyN_one (i := 19) (by kernel_rfl) rfl (fun K hK => ?_)
  go_simp
  refine hK.out _ _ (.inl (by decide)) ?_
  clear hK K
  refine wpAnyN_done (by kernel_rfl) ?_ _
  go_wp2_with fail
  have hlen : (without f fs).length = fs.length - 1 := by rw [HWO.out, List.length_append, List.length_take, List.length_drop]; omega
  have o3 : w2.ownsRow W.heap.size 3 1 (.slice A2 (without f fs).length c2) (without f fs).length ((without f fs).map (Value.int .i64)) := by rw [hlen, HWO.out]; exact o2
  obtain ⟨hw3, hch3⟩ := H.out.setFiles hb2 A2 c2 W.heap.size (without f fs) o3
  rw [hlen] at hw3 hch3
  have hBW : B ≤ (w2.setCell ⟨d, 1, none⟩ (.slice A2 (fs.length - 1) c2)).heap.size := Nat.le_trans hB hch3.size
  have HW := Lib.hid hw3
  have HCH := Lib.hid hch3
  clear hw3 hch3 hlen o3 o2 g2 hb2 hc2 e2 f2 o1 g1 hb1 s0 s1 o0 hB0 hH hlv
  generalize w2.setCell ⟨d, 1, none⟩ (.slice A2 (fs.length - 1) c2) = W1 at *
  obtain ⟨lA, lc, hlv⟩ := HW.out.row.form
  subst hlv
  have k2 := HW.out.cel.cell 2
  go_loopw [5, 6] (fun v i wr => ∃ j : Nat, j ≤ m.l.length ∧ i = .int .i64 j ∧ Rl wr W1.heap.size v (dropL f (m.l.take j)) ∧ Below W1.heap.size W1 wr)
    (fun _ i _ => m.l.length - (Go.RowKit.intOf i).toNat)
  case atStart => exact ⟨0, Nat.zero_le _, rfl, World.ownsRow_nil _ _ _ _, Below.refl _ _⟩
  case round =>
    obtain ⟨j, hj, rfl, hrl, hbw⟩ := hrel
    have HRL := Lib.hid hrl
    have HB := Lib.hid hbw
    have k2' := (Cel.below HW.out.cel hbw HW.out.cel.lt).cell 2
    clear hrl hbw k2
    by_cases hlt : j < m.l.length
    · obtain ⟨x, hx⟩ : ∃ x, m.l[j]? = some x := ⟨_, List.getElem?_eq_getElem hlt⟩
      have hR1 : Rl wr B (.slice lA m.l.length lc) m.l := HW.out.row.chg (B' := 0) (T := fun _ => False) (Chg.of_below HB.out) (fun _ _ h => h)
      obtain ⟨g, cap, hv, hgB, hgl⟩ : ∃ g cap, Value.slice lA m.l.length lc = .slice (some ⟨g, 0, none⟩) m.l.length cap ∧ B ≤ g ∧ g < wr.heap.size := by
        rcases hR1.cases with ⟨_, e⟩ | ⟨g, cap, e, h1, h2, _⟩
        · rw [e] at hlt; simp at hlt
        · exact ⟨g, cap, e, h1, h2⟩
      cases hv
      obtain ⟨q0, q1, q2⟩ := hR1.cell hx
      have hxl : m.l.take (j + 1) = m.l.take j ++ [x] := by
        obtain ⟨hj2, e⟩ := List.getElem?_eq_some_iff.1 hx
        rw [List.take_succ_eq_append_getElem hj2, e]
      have HXL := Lib.hid hxl
      clear hx hxl hR1
      by_cases hxf : x.file = f
      · subst hxf
        have hd : dropL x.file (m.l.take (j + 1)) = dropL x.file (m.l.take j) := by rw [HXL.out]; simp [dropL]
        have HD := Lib.hid hd
        clear hd
        go_wp2_with fail
        go_roundw
        case rel => exact ⟨j + 1, by omega, by go_num, by rw [HD.out]; exact HRL.out, HB.out⟩
        case measure => simp [Go.RowKit.intOf]; omega
      · have hq : (x.file == f) = false := by simpa using hxf
        have hq2 : (x.file != f) = true := by simpa using hxf
        have hd : dropL f (m.l.take (j + 1)) = dropL f (m.l.take j) ++ [x] := by rw [HXL.out]; simp [dropL, hxf]
        have hpl : (dropL f (m.l.take j)).length ≤ 1000 := by
          have h1 : (dropL f (m.l.take j)).length ≤ (m.l.take j).length := List.length_filter_le _ _
          have h2 : (m.l.take j).length ≤ j := List.length_take_le _ _
          omega
        obtain ⟨pl, hpl2⟩ : ∃ pl, pl = (dropL f (m.l.take j)).length := ⟨_, rfl⟩
        have hnew : Src (wr.alloc (.cells #[.int .i64 x.file, .string (str x.b), .bool x.s] 85)) (some ⟨wr.heap.size, 0, none⟩) 1 x.cells := fun _ => ⟨_, rfl, fun q u hu => by rw [Addr.add_lit, Nat.zero_add]; exact ((Cel.new wr 85 x.cells).cell q).trans hu⟩
        have hown : (wr.alloc (.cells #[.int .i64 x.file, .string (str x.b), .bool x.s] 85)).ownsRow W1.heap.size 85 3 u5 pl (cellsL (dropL f (m.l.take j))) := by rw [hpl2]; exact World.ownsRow.alloc HRL.out _
        have hone : ∀ u ∈ x.cells, u.oneCell' = true := by have := cellsL_one [x]; simpa [cellsL] using this
        have hn1 : pl ≤ 1000 := by omega
        have hsz := HB.out.size
        have HD := Lib.hid hd
        have HPL := Lib.hid hpl2
        have HNEW := Lib.hid hnew
        have HOWN := Lib.hid hown
        have HONE := Lib.hid hone
        clear hd hpl hpl2 hnew hown hone
        go_wp2_with ((at_builtin; refine wpList_append_any _ rfl (.tmp 50) (.tmp 58) 35 rfl W1.heap.size 85 cellsT _ pl _ rfl HOWN.out (some ⟨wr.heap.size, 0, none⟩) 1 1 x.cells rfl rfl HNEW.out HONE.out (pl + 1) _ rfl rfl (by unfold maxLen; omega) (by omega) (by simp; omega) ?_; intro A3 c3 w3 o3 g3 _; have O3 := Lib.hid o3; have G3 := Lib.hid g3; clear o3 g3))
        have hrl3 : Rl w3 W1.heap.size (.slice A3 (pl + 1) c3) (dropL f (m.l.take (j + 1))) := by
          rw [HD.out]
          unfold Rl
          rw [List.length_append, cellsL_app, ← HPL.out]
          have : cellsL [x] = x.cells := by simp [cellsL]
          rw [this]
          exact O3.out
        have hb3 : Below W1.heap.size W1 w3 := (HB.out.alloc HB.out.size _).grown G3.out (by simp; omega) (fun q hq => (World.ownsRow.lt HOWN.out q hq).1)
        go_roundw
        case rel => exact ⟨j + 1, by omega, by go_num, hrl3, hb3⟩
        case measure => simp [Go.RowKit.intOf]; omega
    · obtain rfl : j = m.l.length := by omega
      have hrl2 := HRL.out
      rw [List.take_length] at hrl2
      obtain ⟨A4, c4, hv4⟩ := hrl2.form
      have hrl2' := ownsRow_base_a hrl2 hBW
      obtain ⟨hfin, hfch⟩ := HW.out.setRow HB.out _ _ hrl2'
      have HFIN := Lib.hid hfin
      have HFCH := Lib.hid hfch
      have f2 := (Cel.below HW.out.cel HB.out HW.out.cel.lt).free 2
      subst hv4
      clear hfin hfch hrl2 hrl2'
      go_wp2_with fail
      go_end0
      have hfin := HFIN.out
      have hfch := HFCH.out
      exact ⟨rfl, ⟨_, _, _, _, _, by rw [← HFS.out]; exact hfin⟩, HCH.out.trans hfch⟩

set_option maxRecDepth 100000 in
set_option maxHeartbeats 2000000 in
theorem rdropNone (w : World) (B d : Nat) (m : M) (f : Int) (h : Fu w B d m) (hB : B ≤ w.heap.size) (hl : m.files.length ≤ 1000) (hll : m.l.length ≤ 1000) (hf : f ∉ m.files) :
    Calls Tryz.prog 103 #[.pointer (some ⟨d, 0, none⟩), .int .i64 f] w fun r w' => r = .returned (.tuple #[]) ∧ Fu w' B d { m with files := without f m.files, l := dropL f m.l } ∧ Chg B Rob w w' := by
  rw [without_self f _ hf]
  obtain ⟨A, c, lv, kv, left, h⟩ := h
  have k1 := h.cel.cell 1
  have con := at_ok w d m.files f A c k1 h.files hl
  have e : atI f m.files = -1 := if_neg hf
  rw [e] at con
  have HW := Lib.hid h
  clear h e hf k1
  go_enter Tryz.func103, Tryz.ntmps103
  go_wp2_with (first | (go_at_call 32; refine con.mono ?_; rintro e w' ⟨rfl, rfl⟩))
  clear con
  obtain ⟨W1, rfl⟩ : ∃ W : World, W = w := ⟨_, rfl⟩
  have hBW := hB
  obtain ⟨lA, lc, hlv⟩ := HW.out.row.form
  subst hlv
  have k2 := HW.out.cel.cell 2
  go_loopw [5, 6] (fun v i wr => ∃ j : Nat, j ≤ m.l.length ∧ i = .int .i64 j ∧ Rl wr W1.heap.size v (dropL f (m.l.take j)) ∧ Below W1.heap.size W1 wr)
    (fun _ i _ => m.l.length - (Go.RowKit.intOf i).toNat)
  case atStart => exact ⟨0, Nat.zero_le _, rfl, World.ownsRow_nil _ _ _ _, Below.refl _ _⟩
  case round =>
    obtain ⟨j, hj, rfl, hrl, hbw⟩ := hrel
    have HRL := Lib.hid hrl
    have HB := Lib.hid hbw
    have k2' := (Cel.below HW.out.cel hbw HW.out.cel.lt).cell 2
    clear hrl hbw k2
    by_cases hlt : j < m.l.length
    · obtain ⟨x, hx⟩ : ∃ x, m.l[j]? = some x := ⟨_, List.getElem?_eq_getElem hlt⟩
      have hR1 : Rl wr B (.slice lA m.l.length lc) m.l := HW.out.row.chg (B' := 0) (T := fun _ => False) (Chg.of_below HB.out) (fun _ _ h => h)
      obtain ⟨g, cap, hv, hgB, hgl⟩ : ∃ g cap, Value.slice lA m.l.length lc = .slice (some ⟨g, 0, none⟩) m.l.length cap ∧ B ≤ g ∧ g < wr.heap.size := by
        rcases hR1.cases with ⟨_, e⟩ | ⟨g, cap, e, h1, h2, _⟩
        · rw [e] at hlt; simp at hlt
        · exact ⟨g, cap, e, h1, h2⟩
      cases hv
      obtain ⟨q0, q1, q2⟩ := hR1.cell hx
      have hxl : m.l.take (j + 1) = m.l.take j ++ [x] := by
        obtain ⟨hj2, e⟩ := List.getElem?_eq_some_iff.1 hx
        rw [List.take_succ_eq_append_getElem hj2, e]
      have HXL := Lib.hid hxl
      clear hx hxl hR1
      by_cases hxf : x.file = f
      · subst hxf
        have hd : dropL x.file (m.l.take (j + 1)) = dropL x.file (m.l.take j) := by rw [HXL.out]; simp [dropL]
        have HD := Lib.hid hd
        clear hd
        go_wp2_with fail
        go_roundw
        case rel => exact ⟨j + 1, by omega, by go_num, by rw [HD.out]; exact HRL.out, HB.out⟩
        case measure => simp [Go.RowKit.intOf]; omega
      · have hq : (x.file == f) = false := by simpa using hxf
        have hq2 : (x.file != f) = true := by simpa using hxf
        have hd : dropL f (m.l.take (j + 1)) = dropL f (m.l.take j) ++ [x] := by rw [HXL.out]; simp [dropL, hxf]
        have hpl : (dropL f (m.l.take j)).length ≤ 1000 := by
          have h1 : (dropL f (m.l.take j)).length ≤ (m.l.take j).length := List.length_filter_le _ _
          have h2 : (m.l.take j).length ≤ j := List.length_take_le _ _
          omega
        obtain ⟨pl, hpl2⟩ : ∃ pl, pl = (dropL f (m.l.take j)).length := ⟨_, rfl⟩
        have hnew : Src (wr.alloc (.cells #[.int .i64 x.file, .string (str x.b), .bool x.s] 85)) (some ⟨wr.heap.size, 0, none⟩) 1 x.cells := fun _ => ⟨_, rfl, fun q u hu => by rw [Addr.add_lit, Nat.zero_add]; exact ((Cel.new wr 85 x.cells).cell q).trans hu⟩
        have hown : (wr.alloc (.cells #[.int .i64 x.file, .string (str x.b), .bool x.s] 85)).ownsRow W1.heap.size 85 3 u5 pl (cellsL (dropL f (m.l.take j))) := by rw [hpl2]; exact World.ownsRow.alloc HRL.out _
        have hone : ∀ u ∈ x.cells, u.oneCell' = true := by have := cellsL_one [x]; simpa [cellsL] using this
        have hn1 : pl ≤ 1000 := by omega
        have hsz := HB.out.size
        have HD := Lib.hid hd
        have HPL := Lib.hid hpl2
        have HNEW := Lib.hid hnew
        have HOWN := Lib.hid hown
        have HONE := Lib.hid hone
        clear hd hpl hpl2 hnew hown hone
        go_wp2_with ((at_builtin; refine wpList_append_any _ rfl (.tmp 50) (.tmp 58) 35 rfl W1.heap.size 85 cellsT _ pl _ rfl HOWN.out (some ⟨wr.heap.size, 0, none⟩) 1 1 x.cells rfl rfl HNEW.out HONE.out (pl + 1) _ rfl rfl (by unfold maxLen; omega) (by omega) (by simp; omega) ?_; intro A3 c3 w3 o3 g3 _; have O3 := Lib.hid o3; have G3 := Lib.hid g3; clear o3 g3))
        have hrl3 : Rl w3 W1.heap.size (.slice A3 (pl + 1) c3) (dropL f (m.l.take (j + 1))) := by
          rw [HD.out]
          unfold Rl
          rw [List.length_append, cellsL_app, ← HPL.out]
          have : cellsL [x] = x.cells := by simp [cellsL]
          rw [this]
          exact O3.out
        have hb3 : Below W1.heap.size W1 w3 := (HB.out.alloc HB.out.size _).grown G3.out (by simp; omega) (fun q hq => (World.ownsRow.lt HOWN.out q hq).1)
        go_roundw
        case rel => exact ⟨j + 1, by omega, by go_num, hrl3, hb3⟩
        case measure => simp [Go.RowKit.intOf]; omega
    · obtain rfl : j = m.l.length := by omega
      have hrl2 := HRL.out
      rw [List.take_length] at hrl2
      obtain ⟨A4, c4, hv4⟩ := hrl2.form
      have hrl2' := ownsRow_base_a hrl2 hBW
      obtain ⟨hfin, hfch⟩ := HW.out.setRow HB.out _ _ hrl2'
      have HFIN := Lib.hid hfin
      have HFCH := Lib.hid hfch
      have f2 := (Cel.below HW.out.cel HB.out HW.out.cel.lt).free 2
      subst hv4
      clear hfin hfch hrl2 hrl2'
      go_wp2_with fail
      go_end0
      have hfin := HFIN.out
      have hfch := HFCH.out
      exact ⟨rfl, ⟨_, _, _, _, _, hfin⟩, hfch⟩
theorem rdrop_ok (w : World) (B d : Nat) (m : M) (f : Int) (h : Fu w B d m) (hB : B ≤ w.heap.size) (hs : m.files.Pairwise (· < ·)) (hl : m.files.length ≤ 1000) (hll : m.l.length ≤ 1000) :
    Calls Tryz.prog 103 #[.pointer (some ⟨d, 0, none⟩), .int .i64 f] w fun r w' => r = .returned (.tuple #[]) ∧ Fu w' B d { m with files := without f m.files, l := dropL f m.l } ∧ Chg B Rob w w' := by
  by_cases hf : f ∈ m.files
  · exact rdropFiles w B d m f h hB hs hl hll hf
  · exact rdropNone w B d m f h hB hl hll hf
end Go.Proofs.YtdaknfepcbooeaaGreat.Disk
end

section
namespace Go.Proofs.YtdaknfepcbooeaaGreat.Disk
open Go.RowKit Go.Proofs.YtdaknfepcbooeaaGreat.Ord
set_option linter.unusedVariables false
set_option linter.unusedSimpArgs false

set_option maxRecDepth 100000 in
set_option maxHeartbeats 1000000 in
theorem radd_here (w : World) (B d : Nat) (m : M) (f : Int) (h : Fu w B d m) (hs : m.files.Pairwise (· < ·)) (hl : m.files.length ≤ 1000) (hf : f ∈ m.files) :
    Calls Tryz.prog 54 #[.pointer (some ⟨d, 0, none⟩), .int .i64 f] w fun r w' => r = .returned (.tuple #[]) ∧ Fu w' B d { m with files := add f m.files } ∧ Chg B Rob w w' := by
  rw [add_here f _ hs hf]
  have H := Lib.hid h
  obtain ⟨A, c, lv, kv, left, h⟩ := h
  have k1 := h.cel.cell 1
  have con := at_ok w d m.files f A c k1 h.files hl
  have e : atI f m.files = (m.files.idxOf f : Nat) := if_pos hf
  rw [e] at con
  clear h e hf k1 hs
  go_enter Tryz.func54, Tryz.ntmps54
  go_wp2_with (first | (go_at_call 32; refine con.mono ?_; rintro e w' ⟨rfl, rfl⟩))
  exact bodyPost_ret (results_none rfl _ _ _) rfl ⟨rfl, H.out, Chg.refl _ _ _⟩

set_option maxRecDepth 100000 in
set_option maxHeartbeats 3000000 in
theorem radd_new (w : World) (B d : Nat) (m : M) (f : Int) (h : Fu w B d m) (hs : m.files.Pairwise (· < ·)) (hl : m.files.length ≤ 1000) (hf : f ∉ m.files) :
    Calls Tryz.prog 54 #[.pointer (some ⟨d, 0, none⟩), .int .i64 f] w fun r w' => r = .returned (.tuple #[]) ∧ Fu w' B d { m with files := add f m.files } ∧ Chg B Rob w w' := by
  obtain ⟨A, c, lv, kv, left, h⟩ := h
  obtain ⟨fs, hfs⟩ : ∃ fs, fs = m.files := ⟨_, rfl⟩
  have k1 := h.cel.cell 1
  have con := at_ok w d m.files f A c k1 h.files hl
  have e : atI f m.files = -1 := if_neg hf
  rw [e] at con
  have hcel := h.cel
  have hcap := h.cap
  have hfi := h.files
  have hadd : add f fs = ins f fs := by unfold add; rw [without_self f _ (by rw [hfs]; exact hf)]
  rw [← hfs] at hcel hcap hfi hl hs hf
  have H := Lib.hid h
  have HC := Lib.hid hcel
  have HI := Lib.hid hfi
  have HFS := Lib.hid hfs
  have HF := Lib.hid hf
  have HS := Lib.hid hs
  have HADD := Lib.hid hadd
  clear k1
  have k1 := hcel.cell 1
  clear h hcel hfi hfs e hf hs hadd
  go_enter Tryz.func54, Tryz.ntmps54
  go_wp2_with (first | (go_at_call 32; refine con.mono ?_; rintro e w' ⟨rfl, rfl⟩))
  clear con
  go_loop [4] (fun i => ∃ k : Nat, k ≤ fs.length ∧ i = .int .i64 k ∧ ∀ x ∈ fs.take k, x < f) (fun i => fs.length - (Go.RowKit.intOf i).toNat)
  case atStart => exact ⟨0, Nat.zero_le _, rfl, by simp⟩
  case round =>
    obtain ⟨k, hk, rfl, hlo⟩ := hrel
    have HLO := Lib.hid hlo
    clear hlo
    by_cases hgo : ∃ g, fs[k]? = some g ∧ g < f
    · obtain ⟨g, hg, hgf⟩ := hgo
      have hlt : k < fs.length := (List.getElem?_eq_some_iff.1 hg).1
      obtain ⟨ad, rfl, _, hcl⟩ := HI.out (by omega)
      have hc := hcl k g hg
      have ht : fs.take (k + 1) = fs.take k ++ [g] := by
        obtain ⟨hj2, e⟩ := List.getElem?_eq_some_iff.1 hg
        rw [List.take_succ_eq_append_getElem hj2, e]
      have HT := Lib.hid ht
      clear ht hcl hg
      go_wp2_with fail
      go_round
      case rel => exact ⟨k + 1, by omega, by go_num, by rw [HT.out]; intro x hx; rcases List.mem_append.1 hx with hx | hx; exact HLO.out x hx; rw [List.mem_singleton.1 hx]; exact hgf⟩
      case measure => simp [Go.RowKit.intOf]; omega
    · have hins : ins f fs = fs.take k ++ f :: fs.drop k := ins_at hk HLO.out fun x hx => by
        have h1 : ¬ x < f := fun h => hgo ⟨x, hx, h⟩
        have h2 : x ≠ f := fun e => HF.out (e ▸ List.mem_of_getElem? hx)
        omega
      have HINS := Lib.hid hins
      have hwalk : (k < fs.length → ∃ ad g, A = some ad ∧ w.cell? (ad.add k) = some (.int .i64 g) ∧ ¬ g < f) := fun hlt => by
        obtain ⟨ad, e, _, hcl⟩ := HI.out (by omega)
        exact ⟨ad, _, e, hcl k _ (List.getElem?_eq_getElem hlt), fun h => hgo ⟨_, List.getElem?_eq_getElem hlt, h⟩⟩
      clear hins hgo
      obtain ⟨X, hX⟩ : ∃ X, X = if c = k then A else A.map (·.add (k * 1)) := ⟨_, rfl⟩
      obtain ⟨r, hr⟩ : ∃ r, r = fs.length - k := ⟨_, rfl⟩
      have HRR := Lib.hid hr
      clear hr
      have HX := Lib.hid hX
      have HW := Lib.hid hwalk
      clear hX hwalk
      have o0 : (w.alloc (.cells #[] 3)).ownsRow w.heap.size 3 1 (.slice (some ⟨w.heap.size, 0, none⟩) 0 0) 0 [] := World.ownsRow_lit w #[] 0 (Nat.le_refl _) (Nat.zero_le _) rfl
      have s0 : Src (w.alloc (.cells #[] 3)) A k ((fs.take k).map (Value.int .i64)) := by
        have := ((HI.out.take k).below ((Below.refl _ _).alloc (Nat.le_refl _) (.cells #[] 3))).src
        rw [List.length_take, Nat.min_eq_left hk] at this
        exact this
      have k1a : (w.alloc (.cells #[] 3)).cell? ⟨d, 1, none⟩ = some (.slice A fs.length c) := (Cel.alloc HC.out _).cell 1
      have O0 := Lib.hid o0
      have S0 := Lib.hid s0
      clear o0 s0
      by_cases hlt : k < fs.length
      · obtain ⟨ad, g, hA, hc, hgf⟩ := HW.out hlt
        subst hA
        go_wp2_with (first   | (refine wpList_slice rfl 34 (.tmp 34) none (some (.tmp 35)) none rfl (.slice (some ad) k c) ?_ ?_; exact run_cutTo _ undI sizeI (some ad) fs.length c k .i64 (by omega))   | (at_builtin; refine wpList_append_any _ rfl (.tmp 30) (.tmp 36) 34 rfl w.heap.size 3 intsT _ 0 [] rfl O0.out (some ad) k c ((fs.take k).map (Value.int .i64)) rfl (by rw [List.length_map, List.length_take]; omega) S0.out (ints_one _) k _ (Nat.zero_add _) (List.nil_append _) (by unfold maxLen; omega) (by omega) (by simp) ?_; intro A1 c1 w1 o1 g1 _; have hb1 : Below w.heap.size w w1 := ((Below.refl _ _).alloc (Nat.le_refl _) _).grown g1 (by simp) (by intro q hq; cases hq; exact Nat.le_refl _); have B1 := Lib.hid hb1; have O1 := Lib.hid o1; have h1z := hb1.size; clear hb1 o1 g1)   | (at_builtin; refine wpList_append_any _ rfl (.tmp 38) (.tmp 40) 34 rfl w.heap.size 3 intsT _ k _ rfl (World.ownsRow.alloc O1.out _) (some ⟨w1.heap.size, 0, none⟩) 1 1 [.int .i64 f] rfl rfl (src_new w1 3 (.int .i64 f)) (by simp [Value.oneCell']) (k + 1) _ rfl rfl (by unfold maxLen; omega) (by omega) (by simp; omega) ?_; intro A2 c2 w2 o2 g2 _; have hb2 : Below w.heap.size w w2 := (B1.out.alloc B1.out.size _).grown g2 (by simp; omega) (fun q hq => (World.ownsRow.lt O1.out q hq).1); have B2 := Lib.hid hb2; have O2 := Lib.hid o2; have h2z := hb2.size; have k12 := (Cel.below HC.out hb2 HC.out.lt).cell 1; clear hb2 o2 g2)   | (refine wpList_slice rfl 34 (.tmp 47) (some (.tmp 48)) none none rfl (.slice X r (c - k)) ?_ ?_; rw [HX.out, HRR.out]; exact run_cutFrom _ undI sizeI (some ad) fs.length c k .i64 (by omega))   | (at_builtin; refine wpList_append_any _ rfl (.tmp 43) (.tmp 49) 34 rfl w.heap.size 3 intsT _ (k + 1) _ rfl O2.out X r (c - k) ((fs.drop k).map (Value.int .i64)) rfl (by rw [List.length_map, List.length_drop, Nat.mul_one, HRR.out]) (by have := ((HI.out.cut (k := k) hcap).below B2.out).src; rw [List.length_drop] at this; rw [HX.out, HRR.out, Nat.mul_one]; exact this) (ints_one _) (fs.length + 1) ((ins f fs).map (Value.int .i64)) (by have := HRR.out; omega) (by rw [HINS.out]; simp) (by unfold maxLen; omega) (by omega) h2z ?_; intro A3 c3 w3 o3 g3 _; have hb3 : Below w.heap.size w w3 := B2.out.grown g3 h2z (fun q hq => (World.ownsRow.lt O2.out q hq).1); have B3 := Lib.hid hb3; have O3 := Lib.hid o3; have k13 := (Cel.below HC.out hb3 HC.out.lt).cell 1; have f13 := (Cel.below HC.out hb3 HC.out.lt).free 1; clear hb3 o3 g3))
        go_end0
        have hlen : (add f fs).length = fs.length + 1 := by rw [HADD.out, HINS.out, List.length_append, List.length_cons, List.length_take, List.length_drop]; omega
        have o4 : w3.ownsRow w.heap.size 3 1 (.slice A3 (add f fs).length c3) (add f fs).length ((add f fs).map (Value.int .i64)) := by rw [hlen, HADD.out]; exact O3.out
        obtain ⟨q1, q2⟩ := H.out.setFiles B3.out A3 c3 w.heap.size (add f fs) o4
        rw [hlen] at q1 q2
        rw [← HFS.out]
        exact ⟨rfl, ⟨_, _, _, _, _, q1⟩, q2⟩
      · have hge : fs.length ≤ k := by omega
        go_wp2_with (first   | (refine wpList_slice rfl 34 (.tmp 34) none (some (.tmp 35)) none rfl (.slice A k c) ?_ ?_; exact run_cutTo _ undI sizeI (A) fs.length c k .i64 (by omega))   | (at_builtin; refine wpList_append_any _ rfl (.tmp 30) (.tmp 36) 34 rfl w.heap.size 3 intsT _ 0 [] rfl O0.out (A) k c ((fs.take k).map (Value.int .i64)) rfl (by rw [List.length_map, List.length_take]; omega) S0.out (ints_one _) k _ (Nat.zero_add _) (List.nil_append _) (by unfold maxLen; omega) (by omega) (by simp) ?_; intro A1 c1 w1 o1 g1 _; have hb1 : Below w.heap.size w w1 := ((Below.refl _ _).alloc (Nat.le_refl _) _).grown g1 (by simp) (by intro q hq; cases hq; exact Nat.le_refl _); have B1 := Lib.hid hb1; have O1 := Lib.hid o1; have h1z := hb1.size; clear hb1 o1 g1)   | (at_builtin; refine wpList_append_any _ rfl (.tmp 38) (.tmp 40) 34 rfl w.heap.size 3 intsT _ k _ rfl (World.ownsRow.alloc O1.out _) (some ⟨w1.heap.size, 0, none⟩) 1 1 [.int .i64 f] rfl rfl (src_new w1 3 (.int .i64 f)) (by simp [Value.oneCell']) (k + 1) _ rfl rfl (by unfold maxLen; omega) (by omega) (by simp; omega) ?_; intro A2 c2 w2 o2 g2 _; have hb2 : Below w.heap.size w w2 := (B1.out.alloc B1.out.size _).grown g2 (by simp; omega) (fun q hq => (World.ownsRow.lt O1.out q hq).1); have B2 := Lib.hid hb2; have O2 := Lib.hid o2; have h2z := hb2.size; have k12 := (Cel.below HC.out hb2 HC.out.lt).cell 1; clear hb2 o2 g2)   | (refine wpList_slice rfl 34 (.tmp 47) (some (.tmp 48)) none none rfl (.slice X r (c - k)) ?_ ?_; rw [HX.out, HRR.out]; exact run_cutFrom _ undI sizeI (A) fs.length c k .i64 (by omega))   | (at_builtin; refine wpList_append_any _ rfl (.tmp 43) (.tmp 49) 34 rfl w.heap.size 3 intsT _ (k + 1) _ rfl O2.out X r (c - k) ((fs.drop k).map (Value.int .i64)) rfl (by rw [List.length_map, List.length_drop, Nat.mul_one, HRR.out]) (by have := ((HI.out.cut (k := k) hcap).below B2.out).src; rw [List.length_drop] at this; rw [HX.out, HRR.out, Nat.mul_one]; exact this) (ints_one _) (fs.length + 1) ((ins f fs).map (Value.int .i64)) (by have := HRR.out; omega) (by rw [HINS.out]; simp) (by unfold maxLen; omega) (by omega) h2z ?_; intro A3 c3 w3 o3 g3 _; have hb3 : Below w.heap.size w w3 := B2.out.grown g3 h2z (fun q hq => (World.ownsRow.lt O2.out q hq).1); have B3 := Lib.hid hb3; have O3 := Lib.hid o3; have k13 := (Cel.below HC.out hb3 HC.out.lt).cell 1; have f13 := (Cel.below HC.out hb3 HC.out.lt).free 1; clear hb3 o3 g3))
        go_end0
        have hlen : (add f fs).length = fs.length + 1 := by rw [HADD.out, HINS.out, List.length_append, List.length_cons, List.length_take, List.length_drop]; omega
        have o4 : w3.ownsRow w.heap.size 3 1 (.slice A3 (add f fs).length c3) (add f fs).length ((add f fs).map (Value.int .i64)) := by rw [hlen, HADD.out]; exact O3.out
        obtain ⟨q1, q2⟩ := H.out.setFiles B3.out A3 c3 w.heap.size (add f fs) o4
        rw [hlen] at q1 q2
        rw [← HFS.out]
        exact ⟨rfl, ⟨_, _, _, _, _, q1⟩, q2⟩
theorem radd_ok (w : World) (B d : Nat) (m : M) (f : Int) (h : Fu w B d m) (hs : m.files.Pairwise (· < ·)) (hl : m.files.length ≤ 1000) :
    Calls Tryz.prog 54 #[.pointer (some ⟨d, 0, none⟩), .int .i64 f] w fun r w' => r = .returned (.tuple #[]) ∧ Fu w' B d { m with files := add f m.files } ∧ Chg B Rob w w' := by
  by_cases hf : f ∈ m.files
  · exact radd_here w B d m f h hs hl hf
  · exact radd_new w B d m f h hs hl hf
end Go.Proofs.YtdaknfepcbooeaaGreat.Disk
end
