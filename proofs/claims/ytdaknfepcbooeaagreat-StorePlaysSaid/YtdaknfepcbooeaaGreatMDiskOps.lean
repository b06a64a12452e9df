/-
  What the disk's small calls come to: the map's operations; find, used, syncAll.
-/
import Derived.Test.YtdaknfepcbooeaaGreatMOrd
import Derived.Test.YtdaknfepcbooeaaGreatMDiskA
import Derived.Test.YtdaknfepcbooeaaGreatMDiskDk
namespace Go.Proofs.YtdaknfepcbooeaaGreat.Disk
open Go.RowKit Go.Maps Go.Proofs.YtdaknfepcbooeaaGreat.Ord
set_option linter.unusedVariables false
set_option linter.unusedSimpArgs false

theorem keyed : Keyed Tryz.prog 3 := int_keyed Tryz.underlying3
theorem keyOf_ky {f : Int} (h : -9223372036854775808 ≤ f ∧ f < 9223372036854775808) : keyOf Tryz.prog 3 (.int .i64 f) = some (ky f) := keyOf_int_mk Tryz.underlying3 (wf_ky h)
def lookV (fs : List Int) (vs : Int → Value) (f : Int) : Value := if f ∈ fs then vs f else .slice none 0 0

namespace Mp
variable {w : World} {b : Nat} {fs : List Int} {vs : Int → Value} {f : Int}
theorem val {v : Value} {ps : List MemPlace} (h : Rv v = some ((dat fs vs).atKey (ky f) (.held (.slice none 0 0)), ps)) : v = lookV fs vs f := by
  obtain ⟨A, n, c, rfl, e⟩ := Rv_inv h
  unfold lookV
  by_cases hf : f ∈ fs
  · rw [if_pos hf]; rw [at_dat hf] at e; simp at e; exact e.1.symm
  · rw [if_neg hf]; rw [at_dat_none hf] at e; simp at e; obtain ⟨⟨rfl, rfl, rfl⟩, _⟩ := e; rfl
theorem look (h : Mp w b fs vs) (hf : -9223372036854775808 ≤ f ∧ f < 9223372036854775808) : (Instr.lookup 63 (.map (some b)) (.int .i64 f) false).run Tryz.prog w = .ok (lookV fs vs f) w := by
  obtain ⟨v, ps, hr, hv⟩ := World.ownsMap.lookup h keyed Tryz.underlying63 (Tryz.zeroValue87 w) (zd := .held (.slice none 0 0)) (zp := []) rfl (keyOf_ky hf)
  rw [hr, val hv]
theorem lookOk (h : Mp w b fs vs) (hf : -9223372036854775808 ≤ f ∧ f < 9223372036854775808) : (Instr.lookup 63 (.map (some b)) (.int .i64 f) true).run Tryz.prog w = .ok (.tuple #[lookV fs vs f, .bool (decide (f ∈ fs))]) w := by
  obtain ⟨v, ps, hr, hv⟩ := World.ownsMap.look_ok h keyed Tryz.underlying63 (Tryz.zeroValue87 w) (zd := .held (.slice none 0 0)) (zp := []) rfl (keyOf_ky hf)
  rw [hr, val hv, has_dat]
theorem store (h : Mp w b fs vs) (hf : -9223372036854775808 ≤ f ∧ f < 9223372036854775808) (hl : fs.length ≤ 1000) (A : Option Addr) (n c : Nat) : ∃ w', (Instr.mapUpdate 63 (.map (some b)) (.int .i64 f) (.slice A n c)).run Tryz.prog w = .ok () w' ∧ Mp w' b (add f fs) (upd vs f (.slice A n c)) ∧ w.grownBy w' (some b) := by
  obtain ⟨w', hr, ho, hg⟩ := World.ownsMap.update h keyed Tryz.underlying63 (by unfold maxLen; omega) (keyOf_ky hf) (val := .slice A n c) (d := .held (.slice A n c)) (ps := []) rfl
  rw [put_dat] at ho
  exact ⟨w', hr, Mp.of_owns ho, hg⟩
theorem drop (h : Mp w b fs vs) (hf : -9223372036854775808 ≤ f ∧ f < 9223372036854775808) (ty : TypeId) : ∃ w', (Builtin.delete_ #[63, 3] ty #[.map (some b), .int .i64 f]).run Tryz.prog w = .ok (.tuple #[]) w' ∧ Mp w' b (without f fs) vs ∧ w.grownBy w' (some b) := by
  obtain ⟨w', hr, ho, ht⟩ := World.ownsMap.drop h keyed Tryz.underlying63 (keyOf_ky hf) ty
  rw [del_dat] at ho
  exact ⟨w', hr, Mp.of_owns ho, ht.grown⟩
end Mp

set_option maxRecDepth 100000 in
set_option maxHeartbeats 1000000 in
theorem find_ok (w : World) (B d b : Nat) (m : M) (vs : Int → Value) (kv : Value) (f : Int) (hf : -9223372036854775808 ≤ f ∧ f < 9223372036854775808) (h : Dv w B d m b vs kv) : Calls Tryz.prog 89 #[.pointer (some ⟨d, 0, none⟩), .int .i64 f] w fun e w' => e = .returned (.int .i64 (there m f)) ∧ w = w' := by
  obtain ⟨k0, k1, k2, k3, k4⟩ := Cel.at0 h.cel
  have hl := h.map.lookOk hf
  have con := on_cell w d _ k1
  unfold there
  cases ho : m.off
  · rw [ho] at k1 con
    simp only [Bool.not_false] at k1 con
    by_cases hm : f ∈ m.files
    · rw [if_neg (by simp), if_pos hm]
      rw [decide_eq_true hm] at hl
      clear hf h hm k0 k3 k4
      go_enter Tryz.func89, Tryz.ntmps89
      go_wp2_with (first | (go_at_call 30; refine con.mono ?_; rintro e w' ⟨rfl, rfl⟩))
      go_ret
      exact ⟨rfl, rfl⟩
    · rw [if_neg (by simp), if_neg hm]
      rw [decide_eq_false hm] at hl
      clear hf h hm k0 k3 k4
      go_enter Tryz.func89, Tryz.ntmps89
      go_wp2_with (first | (go_at_call 30; refine con.mono ?_; rintro e w' ⟨rfl, rfl⟩))
      go_ret
      exact ⟨rfl, rfl⟩
  · rw [ho] at k1 con
    simp only [Bool.not_true] at k1 con
    clear hf h hl k0 k3 k4
    go_enter Tryz.func89, Tryz.ntmps89
    go_wp2_with (first | (go_at_call 30; refine con.mono ?_; rintro e w' ⟨rfl, rfl⟩))
    go_ret
    exact ⟨rfl, rfl⟩

set_option maxRecDepth 100000 in
set_option maxHeartbeats 1000000 in
theorem find_nil (w : World) (f : Int) : Calls Tryz.prog 89 #[.pointer none, .int .i64 f] w fun e w' => e = .returned (.int .i64 8) ∧ w = w' := by
  go_enter Tryz.func89, Tryz.ntmps89
  go_wp2_with (first | (go_at_call 30; refine (on_nil _).mono ?_; rintro e w' ⟨rfl, rfl⟩))
  go_ret
  exact ⟨rfl, rfl⟩

/-- Sectors of the files that are still to come. -/
def toCome (fs : List Int) (l : List Cl) (left : Lit → Bool) : Nat := total (fs.filter fun f => left (ky f)) l
theorem toCome_none {fs : List Int} {l : List Cl} {left : Lit → Bool} (h : ∀ k, left k = false) : toCome fs l left = 0 := by
  unfold toCome
  rw [List.filter_eq_nil_iff.2 (by intro f _; simp [h])]
  rfl
theorem toCome_one {fs : List Int} (l : List Cl) {left : Lit → Bool} {f : Int} (hn : fs.Nodup) (hf : f ∈ fs) (hl : left (ky f) = true) :
    toCome fs l left = (rows f l).length + toCome fs l (fun z => left z && !z.sameKey (ky f)) := by
  induction fs with
  | nil => simp at hf
  | cons g fs ih =>
    obtain ⟨h1, h2⟩ := List.nodup_cons.1 hn
    have e : ∀ (a : Int) (xs : List Int), total (a :: xs) l = (rows a l).length + total xs l := fun a xs => by simp [total]
    unfold toCome at *
    by_cases hg : g = f
    · subst hg
      have e2 : fs.filter (fun f => left (ky f) && !(ky f).sameKey (ky g)) = fs.filter (fun f => left (ky f)) := List.filter_congr fun x hx => by
        have : x ≠ g := fun e => h1 (e ▸ hx)
        simp [same_ky, this]
      rw [List.filter_cons, List.filter_cons, hl, e2]
      simp [same_ky, e]
    · have hf' : f ∈ fs := by rcases List.mem_cons.1 hf with e | e; exact absurd e.symm hg; exact e
      have ih := ih h2 hf'
      rw [List.filter_cons, List.filter_cons]
      have e3 : (left (ky g) && !(ky g).sameKey (ky f)) = left (ky g) := by simp [same_ky, hg]
      show total (if left (ky g) = true then g :: fs.filter (fun f => left (ky f)) else fs.filter (fun f => left (ky f))) l = (rows f l).length + total (if (left (ky g) && !(ky g).sameKey (ky f)) = true then g :: fs.filter (fun x => left (ky x) && !(ky x).sameKey (ky f)) else fs.filter (fun x => left (ky x) && !(ky x).sameKey (ky f))) l
      rw [e3]
      have ih' : total (fs.filter fun f => left (ky f)) l = (rows f l).length + total (fs.filter (fun x => left (ky x) && !(ky x).sameKey (ky f))) l := ih
      cases left (ky g)
      · simpa using ih'
      · simp only [if_true, e]
        omega

/-- What comes up is a file, with its row. -/
theorem came {fs : List Int} {vs : Int → Value} {f : Int} {A : Option Addr} {n c : Nat} (h : ∀ zd, (dat fs vs).atKey (ky f) zd = .held (.slice A n c)) : f ∈ fs ∧ vs f = .slice A n c := by
  by_cases hf : f ∈ fs
  · refine ⟨hf, ?_⟩
    have := h (.held .nilFunc)
    rw [at_dat hf] at this
    exact DataW.held.inj this
  · have := h (.held .nilFunc)
    rw [at_dat_none hf] at this
    cases DataW.held.inj this

/-- The step of a loop over the files. -/
theorem wpList_next_files {w : World} {ops : Array Oper} {rest : List Oper} {o : Oper} {a : Act} {Q : Exit → Act → World → Prop} (hg : o.guard = none) (it : Operand) (hop : o.op = Op.next it false) (b r n : Nat) (fs : List Int) (vs : Int → Value) (left : Lit → Bool) (cnt : Nat)
    (hit : a.eval it = .pointer (some ⟨r, 0, none⟩)) (h : w.ranges Tryz.prog 3 Rv b r n (dat fs vs) left cnt)
    (hDone : cnt = 0 → (∀ kl, left kl = false) → wpList Tryz.prog ops Q rest (a.put o.dst (.tuple #[.bool false])) w)
    (hMore : ∀ (f : Int) (A : Option Addr) (m c : Nat) (w' : World) (cnt' : Nat), f ∈ fs → vs f = .slice A m c → left (ky f) = true → w'.ranges Tryz.prog 3 Rv b r n (dat fs vs) (fun z => left z && !z.sameKey (ky f)) cnt' → cnt' < cnt →
      w.grownBy w' (some r) → w'.heap.size = w.heap.size → (Instr.entry (.pointer (some ⟨r, 0, none⟩))).run Tryz.prog w' = .ok (.tuple #[.int .i64 f, .slice A m c]) w' → wpList Tryz.prog ops Q rest (a.put o.dst (.tuple #[.bool true, .int .i64 f, .slice A m c])) w') :
    wpList Tryz.prog ops Q (o :: rest) a w :=
  wpList_next_ranges w hg it hop 3 keyed Rv (Value.int .i64) (fun (y : Option Addr × Nat × Nat) => Value.slice y.1 y.2.1 y.2.2) (fun key kl hkey => by obtain ⟨x, rfl, _⟩ := Maps.keyOf_int_inv Tryz.underlying3 hkey; exact ⟨x, rfl⟩)
    (fun v y hv => by obtain ⟨A, n, c, rfl, _⟩ := Rv_inv hv; exact ⟨(A, n, c), rfl⟩) b r n _ _ _ hit h hDone fun x c kl y w1 cnt1 hkey hlx hRy hat hrg1 hlt hg1 hs1 hen => by
    obtain ⟨x', ex, rfl, hwx⟩ := Maps.keyOf_int_inv Tryz.underlying3 hkey
    cases ex
    obtain ⟨A', n', c', e1, rfl⟩ := Rv_inv hRy
    obtain ⟨hxf, hvx⟩ := came hat
    rw [e1] at hen ⊢
    exact hMore x A' n' c' w1 cnt1 hxf hvx hlx hrg1 hlt hg1 hs1 hen

set_option maxRecDepth 100000 in
set_option maxHeartbeats 1000000 in
theorem used_ok (w : World) (B d b : Nat) (m : M) (vs : Int → Value) (kv : Value) (h : Dv w B d m b vs kv) : Calls Tryz.prog 50 #[.pointer (some ⟨d, 0, none⟩)] w fun e w' => e = .returned (.int .i64 (m.l.length : Nat)) ∧ Below w.heap.size w w' := by
  obtain ⟨k0, k1, k2, k3, k4⟩ := Cel.at0 h.cel
  have H := Lib.hid h
  have hmap : w.ownsMap Tryz.prog 3 Rv b m.files.length (dat m.files vs) := h.map
  clear h k0 k1 k3 k4
  go_enter Tryz.func50, Tryz.ntmps50
  go_wp2_with (first | (at_range; refine wpList_range_own _ rfl _ 63 rfl 3 87 keyed Tryz.underlying63 Rv b _ _ rfl hmap ?_; intro w0 hrg0 hg0 hs0))
  go_frame
  go_loopw [3] (fun v wr => ∃ (left : Lit → Bool) (cnt s : Nat), wr.ranges Tryz.prog 3 Rv b w.heap.size m.files.length (dat m.files vs) left cnt ∧ v = .int .i64 s ∧ s + toCome m.files m.l left = m.l.length ∧ Below w.heap.size w wr)
    (fun _ wr => wr.rangeLeft b w.heap.size)
  case atStart =>
    refine ⟨_, _, 0, hrg0, rfl, ?_, (Below.refl _ _).grown hg0 (Nat.le_refl _) (fun j hj => by cases hj)⟩
    have := H.out.inv.total
    rw [Nat.zero_add, ← this]
    unfold toCome
    congr 1
    rw [List.filter_eq_self]
    intro f hf
    rw [has_dat]; simpa using hf
  case round =>
    obtain ⟨left, cnt, s, hrg, rfl, hsum, hnx⟩ := hrel
    have HS := Lib.hid hsum
    have hmost : m.l.length ≤ 1000 := by have := H.out.inv.most; have := H.out.inv.room; omega
    have hs1 : s ≤ 1000 := by omega
    clear hsum
    go_wp2_with (first
      | (at_next; refine wpList_next_files rfl _ rfl b w.heap.size m.files.length m.files vs left cnt rfl hrg ?_ ?_)
      | go_in)
    · intro hc0 hl0
      go_wp2
      go_ret
      have := HS.out
      rw [toCome_none hl0] at this
      exact ⟨by rw [← this]; rfl, hnx⟩
    · intro x A n c w1 cnt1 hxf hvx hlx hrg1 hlt hg1 hs1' hen
      have hn : n = (rows x m.l).length := by
        obtain ⟨A2, c2, e2⟩ := (H.out.rows x hxf).form
        rw [hvx] at e2; cases e2; rfl
      have hsum := HS.out
      rw [toCome_one m.l H.out.inv.nodup hxf hlx] at hsum
      have hn1 : n ≤ 1000 := by omega
      have HN := Lib.hid hn
      have HS2 := Lib.hid hsum
      have HX := Lib.hid hvx
      have HR := Lib.hid hrg1
      clear hn hsum hvx hrg1 hlx hxf
      go_wp2_with go_in
      go_roundw
      case rel => exact ⟨_, cnt1, s + n, HR.out, by go_num, by rw [HN.out] at *; have := HS2.out; omega, hnx.grown hg1 hnx.size (fun j hj => by cases hj; exact Nat.le_refl _)⟩
      case measure => rw [HR.out.left_eq, hrg.left_eq]; exact hlt
end Go.Proofs.YtdaknfepcbooeaaGreat.Disk
