/-
  The document's disk in memory; what its small calls come to.
-/
import Derived.Test.YtdaknfepcbooeaaGreatMDiskA
import Derived.Test.YtdaknfepcbooeaaGreatMBaseB
namespace Go.Proofs.YtdaknfepcbooeaaGreat.Disk
open Go.RowKit
set_option linter.unusedVariables false
set_option linter.unusedSimpArgs false

/-- Integers in a block of integers. -/
def Is (w : World) (A : Option Addr) (fs : List Int) : Prop :=
  0 < fs.length → ∃ ad, A = some ad ∧ (∃ cs fz, w.heap[ad.block]? = some (.cells cs 3 fz)) ∧ ∀ j f, fs[j]? = some f → w.cell? (ad.add j) = some (.int .i64 f)
namespace Is
variable {w w' : World} {A : Option Addr} {fs : List Int}
theorem nil_ (w : World) (A : Option Addr) : Is w A [] := fun h => absurd h (by simp)
theorem keep (h : Is w A fs) (hk : ∀ (k : Nat) cs fz, w.heap[k]? = some (Obj.cells cs 3 fz) → w'.heap[k]? = w.heap[k]?) : Is w' A fs := fun hn => by
  obtain ⟨ad, e, ⟨cs, fz, hb⟩, hc⟩ := h hn
  have h1 := hk _ _ _ hb
  exact ⟨ad, e, ⟨cs, fz, h1.trans hb⟩, fun j f hj => (World.cell?_of_block (by rw [add_block]; exact h1)).trans (hc j f hj)⟩
theorem below (h : Is w A fs) (hb : Below w.heap.size w w') : Is w' A fs := h.keep fun k _ _ hk => hb.block k (Array.getElem?_eq_some_iff.1 hk).1
theorem chg {B : Nat} {T : Obj → Prop} (h : Is w A fs) (hc : Chg B T w w') (hT : ∀ cs fz, ¬ T (.cells cs 3 fz)) : Is w' A fs := h.keep fun k cs fz hk => (hc.block k _ hk (.inr (hT cs fz))).trans hk.symm
theorem of_own {base n c : Nat} (h : w.ownsRow base 3 1 (.slice A n c) n (fs.map (Value.int .i64))) : Is w A fs := fun hn => by
  have hl : fs.length = n := by simpa using h.1
  rcases h.2 with ⟨hv, h0⟩ | ⟨g, cap, cur, hv, hb, hg, _⟩
  · omega
  · have hA : A = some ⟨g, 0, none⟩ := by injection hv
    subst hA
    exact ⟨_, rfl, ⟨_, _, hg⟩, fun j f hj => h.cells (g := g) rfl j _ (by rw [List.getElem?_map, hj]; rfl)⟩
theorem src (h : Is w A fs) : Src w A fs.length (fs.map (Value.int .i64)) := fun hn => by
  obtain ⟨ad, e, _, hc⟩ := h hn
  refine ⟨ad, e, fun j u hu => ?_⟩
  rw [List.getElem?_map] at hu
  cases hj : fs[j]? with
  | none => rw [hj] at hu; cases hu
  | some f => rw [hj] at hu; cases hu; exact hc j f hj
theorem take (h : Is w A fs) (k : Nat) : Is w A (fs.take k) := fun hn => by
  rw [List.length_take] at hn
  obtain ⟨ad, e, hb, hc⟩ := h (by omega)
  refine ⟨ad, e, hb, fun j f hj => hc j f ?_⟩
  rw [List.getElem?_take] at hj
  split at hj
  · exact hj
  · cases hj
theorem cut (h : Is w A fs) {k cap : Nat} (hc : fs.length ≤ cap) : Is w (if cap = k then A else A.map (·.add k)) (fs.drop k) := fun hn => by
  rw [List.length_drop] at hn
  obtain ⟨ad, rfl, hb, hcell⟩ := h (by omega)
  rw [if_neg (by omega)]
  refine ⟨ad.add k, rfl, by rw [add_block]; exact hb, fun j f hj => ?_⟩
  rw [add_add]
  exact hcell _ f (by rw [List.getElem?_drop] at hj; exact hj)
end Is

def Cl.cells (c : Cl) : List Value := [.int .i64 c.file, .string (str c.b), .bool c.s]
def cellsL (l : List Cl) : List Value := l.flatMap Cl.cells
theorem cellsL_cons (c : Cl) (l : List Cl) : cellsL (c :: l) = c.cells ++ cellsL l := List.flatMap_cons ..
theorem cellsL_app (a b : List Cl) : cellsL (a ++ b) = cellsL a ++ cellsL b := List.flatMap_append ..
theorem cellsL_len (l : List Cl) : (cellsL l).length = l.length * 3 := by
  induction l with
  | nil => rfl
  | cons c l ih => rw [cellsL_cons, List.length_append, ih, List.length_cons]; simp [Cl.cells]; omega
theorem cellsL_one (l : List Cl) : ∀ u ∈ cellsL l, u.oneCell' = true := by
  intro u hu
  obtain ⟨c, _, hc⟩ := List.mem_flatMap.1 hu
  simp only [Cl.cells, List.mem_cons, List.not_mem_nil, or_false] at hc
  rcases hc with rfl | rfl | rfl <;> rfl
theorem cellsL_at {l : List Cl} {i : Nat} {c : Cl} (h : l[i]? = some c) {k : Nat} (hk : k < 3) : (cellsL l)[i * 3 + k]? = c.cells[k]? := by
  induction l generalizing i with
  | nil => simp at h
  | cons y ys ih =>
    rw [cellsL_cons]
    have hl : y.cells.length = 3 := rfl
    cases i with
    | zero => simp at h; subst h; rw [List.getElem?_append_left (by omega), Nat.zero_mul, Nat.zero_add]
    | succ i =>
      rw [List.getElem?_append_right (by omega), hl, show (i + 1) * 3 + k - 3 = i * 3 + k by omega]
      exact ih (by simpa using h)
theorem set_cellsL {l : List Cl} {i : Nat} {c : Cl} (h : l[i]? = some c) {k : Nat} (hk : k < 3) (u : Value) (y : Cl) (hy : c.cells.set k u = y.cells) : (cellsL l).set (i * 3 + k) u = cellsL (l.set i y) := by
  induction l generalizing i with
  | nil => simp at h
  | cons z zs ih =>
    have hz : z.cells.length = 3 := rfl
    rw [cellsL_cons]
    cases i with
    | zero =>
      simp at h; subst h
      rw [Nat.zero_mul, Nat.zero_add, List.set_append_left _ _ (by omega), hy, List.set_cons_zero, cellsL_cons]
    | succ i =>
      rw [List.set_append_right _ _ (by omega), hz, List.set_cons_succ, cellsL_cons, show (i + 1) * 3 + k - 3 = i * 3 + k by omega, ih (by simpa using h)]

/-- A row of the document's sectors. -/
def Rl (w : World) (B : Nat) (v : Value) (l : List Cl) : Prop := w.ownsRow B 85 3 v l.length (cellsL l)
theorem Rl.cases {w : World} {B : Nat} {v : Value} {l : List Cl} (h : Rl w B v l) : (v = .slice none 0 0 ∧ l = []) ∨ ∃ g cap, v = .slice (some ⟨g, 0, none⟩) l.length cap ∧ B ≤ g ∧ g < w.heap.size ∧ (∃ cur, w.heap[g]? = some (.cells cur 85 (0, 0))) := by
  rcases h.2 with ⟨rfl, h0⟩ | ⟨g, cap, cur, rfl, hB, hg, _⟩
  · exact .inl ⟨rfl, List.length_eq_zero_iff.1 h0⟩
  · exact .inr ⟨g, cap, rfl, hB, (Array.getElem?_eq_some_iff.1 hg).1, cur, hg⟩
theorem Rl.form {w : World} {B : Nat} {v : Value} {l : List Cl} (h : Rl w B v l) : ∃ A c, v = .slice A l.length c := by
  rcases h.cases with ⟨rfl, rfl⟩ | ⟨g, cap, rfl, _⟩ <;> exact ⟨_, _, rfl⟩
theorem Rl.chg {w w' : World} {B B' : Nat} {T : Obj → Prop} {v : Value} {l : List Cl} (h : Rl w B v l) (hc : Chg B' T w w') (hT : ∀ cs fz, ¬ T (.cells cs 85 fz)) : Rl w' B v l := own_chg h hc (fun cur => hT cur _)
theorem Rl.src {w : World} {B c : Nat} {A : Option Addr} {l : List Cl} (h : Rl w B (.slice A l.length c) l) : Src w A l.length (cellsL l) := fun hn => by
  rcases h.cases with ⟨e, h0⟩ | ⟨g, cap, e, _⟩
  · subst h0; simp at hn
  · cases e
    exact ⟨_, rfl, fun j u hu => World.ownsRow.cells h (g := g) rfl j u hu⟩

/-- The document's disk in block d is m. -/
structure Fv (w : World) (B d : Nat) (m : M) (A : Option Addr) (c : Nat) (lv kv : Value) (left : Int) : Prop where
  inv : Inv m
  cel : Cel w d 38 [.int .i64 m.room, .slice A m.files.length c, lv, .bool m.off, .bool m.plan.isSome, .int .i64 left, kv]
  own : B ≤ d
  cap : m.files.length ≤ c
  files : Is w A m.files
  row : Rl w B lv m.l
  plan : ∀ k ks, m.plan = some (k, ks) → left = k ∧ Bo w B kv ks
def Fk (w : World) (B d : Nat) (m : M) : Prop := ∃ A c lv kv left, Fv w B d m A c lv kv left

theorem Fv.chg {w w' : World} {B d : Nat} {m : M} {A : Option Addr} {c : Nat} {lv kv : Value} {left : Int} {T : Obj → Prop} (h : Fv w B d m A c lv kv left) (hc : Chg B T w w') (h1 : ∀ cs t fz, t = 38 ∨ t = 85 ∨ t = 3 ∨ t = 4 → ¬ T (.cells cs t fz)) : Fv w' B d m A c lv kv left :=
  ⟨h.inv, Cel.chg h.cel hc (h1 _ _ _ (.inl rfl)), h.own, h.cap, h.files.chg hc (fun _ _ => h1 _ _ _ (.inr (.inr (.inl rfl)))), h.row.chg hc (fun _ _ => h1 _ _ _ (.inr (.inl rfl))), fun k ks e => ⟨(h.plan k ks e).1, (h.plan k ks e).2.chg hc (fun _ _ => h1 _ _ _ (.inr (.inr (.inr rfl))))⟩⟩
theorem Fv.below {w w' : World} {B d : Nat} {m : M} {A : Option Addr} {c : Nat} {lv kv : Value} {left : Int} (h : Fv w B d m A c lv kv left) (hb : Below w.heap.size w w') : Fv w' B d m A c lv kv left :=
  h.chg (T := fun _ => False) (Chg.of_below hb) (fun _ _ _ _ h => h)
theorem Fk.below {w w' : World} {B d : Nat} {m : M} (h : Fk w B d m) (hb : Below w.heap.size w w') : Fk w' B d m := by
  obtain ⟨A, c, lv, kv, left, h⟩ := h; exact ⟨A, c, lv, kv, left, h.below hb⟩
theorem Fk.dob {w w' : World} {B d : Nat} {m : M} (h : Fk w B d m) (hc : Chg B Dob w w') : Fk w' B d m := by
  obtain ⟨A, c, lv, kv, left, h⟩ := h
  refine ⟨A, c, lv, kv, left, h.chg hc ?_⟩
  rintro cs t fz (rfl | rfl | rfl | rfl) (h | h) <;> revert h <;> decide
theorem Cel.at7 {w : World} {g : Nat} {t : TypeId} {a0 a1 a2 a3 a4 a5 a6 : Value} (h : Cel w g t [a0, a1, a2, a3, a4, a5, a6]) : w.cell? ⟨g, 0, none⟩ = some a0 ∧ w.cell? ⟨g, 1, none⟩ = some a1 ∧ w.cell? ⟨g, 2, none⟩ = some a2 ∧ w.cell? ⟨g, 3, none⟩ = some a3 ∧ w.cell? ⟨g, 4, none⟩ = some a4 ∧ w.cell? ⟨g, 5, none⟩ = some a5 ∧ w.cell? ⟨g, 6, none⟩ = some a6 :=
  ⟨h.cell 0, h.cell 1, h.cell 2, h.cell 3, h.cell 4, h.cell 5, h.cell 6⟩

/-- What was just laid. -/
theorem src_new (w : World) (t : TypeId) (v : Value) : Src (w.alloc (.cells #[v] t)) (some ⟨w.heap.size, 0, none⟩) 1 [v] := fun _ => ⟨_, rfl, fun q u hu => by
  rw [Addr.add_lit, Nat.zero_add]
  have := (Cel.new w t [v]).cell q
  rw [hu] at this
  exact this⟩
theorem src_new3 (w : World) (t : TypeId) (a b c : Value) : Src (w.alloc (.cells #[a, b, c] t)) (some ⟨w.heap.size, 0, none⟩) 1 [a, b, c] := fun _ => ⟨_, rfl, fun q u hu => by
  rw [Addr.add_lit, Nat.zero_add]
  have := (Cel.new w t [a, b, c]).cell q
  rw [hu] at this
  exact this⟩
/-- A file's place; -1: there is none. -/
def atI (f : Int) (fs : List Int) : Int := if f ∈ fs then (fs.idxOf f : Nat) else -1

set_option maxRecDepth 100000 in
set_option maxHeartbeats 1000000 in
theorem at_ok1 (w : World) (d : Nat) (fs : List Int) (f : Int) (A : Option Addr) (c : Nat) (hc1 : w.cell? ⟨d, 1, none⟩ = some (.slice A fs.length c)) (hs : Is w A fs) (hl : fs.length ≤ 1001) :
    Calls Tryz.prog 32 #[.pointer (some ⟨d, 0, none⟩), .int .i64 f] w fun e w' => e = .returned (.int .i64 (atI f fs)) ∧ w = w' := by
  have HS := Lib.hid hs
  clear hs
  go_enter Tryz.func32, Tryz.ntmps32
  go_wp2_with fail
  go_loop [5] (fun i => ∃ k : Nat, k ≤ fs.length ∧ i = .int .i64 k ∧ f ∉ fs.take k) (fun i => fs.length - (Go.RowKit.intOf i).toNat)
  case atStart => exact ⟨0, Nat.zero_le _, rfl, by simp⟩
  case round =>
    obtain ⟨k, hk, rfl, hn⟩ := hrel
    by_cases hlt : k < fs.length
    · obtain ⟨ad, rfl, _, hcl⟩ := HS.out (by omega)
      obtain ⟨g, hg⟩ : ∃ g, fs[k]? = some g := ⟨_, List.getElem?_eq_getElem hlt⟩
      have hc := hcl k g hg
      obtain ⟨hk2, e⟩ := List.getElem?_eq_some_iff.1 hg
      have ht : fs.take (k + 1) = fs.take k ++ [g] := by rw [List.take_succ_eq_append_getElem hk2, e]
      have HT := Lib.hid ht
      have HN := Lib.hid hn
      have HG := Lib.hid hg
      clear hcl hg ht hn e
      by_cases hgf : g = f
      · subst hgf
        have hat : atI g fs = (k : Int) := by
          have hm : g ∈ fs := List.mem_of_getElem? HG.out
          unfold atI
          rw [if_pos hm]
          congr 1
          have e1 : fs = fs.take k ++ g :: fs.drop (k + 1) := by
            conv => lhs; rw [← List.take_append_drop (k + 1) fs, HT.out]
            simp
          rw [e1, List.idxOf_append, if_neg HN.out, List.idxOf_cons_self, List.length_take]
          omega
        have HAT := Lib.hid hat
        clear hat
        go_wp2_with fail
        go_ret
        exact ⟨by rw [HAT.out]; rfl, rfl⟩
      · have hq : (g == f) = false := by simpa using hgf
        go_wp2_with fail
        go_round
        case rel => exact ⟨k + 1, by omega, by go_num, by rw [HT.out]; simp [HN.out]; exact fun e => hgf e.symm⟩
        case measure => simp [Go.RowKit.intOf]; omega
    · obtain rfl : k = fs.length := by omega
      rw [List.take_length] at hn
      have hat : atI f fs = -1 := by unfold atI; rw [if_neg hn]
      have HAT := Lib.hid hat
      clear hat hn
      go_wp2_with fail
      go_ret
      exact ⟨by rw [HAT.out]; rfl, rfl⟩

theorem at_ok (w : World) (d : Nat) (fs : List Int) (f : Int) (A : Option Addr) (c : Nat) (hc1 : w.cell? ⟨d, 1, none⟩ = some (.slice A fs.length c)) (hs : Is w A fs) (hl : fs.length ≤ 1000) :
    Calls Tryz.prog 32 #[.pointer (some ⟨d, 0, none⟩), .int .i64 f] w fun e w' => e = .returned (.int .i64 (atI f fs)) ∧ w = w' := at_ok1 w d fs f A c hc1 hs (Nat.le_succ_of_le hl)

set_option maxRecDepth 100000 in
set_option maxHeartbeats 1000000 in
theorem rthere_ok (w : World) (B d : Nat) (m : M) (f : Int) (h : Fk w B d m) :
    Calls Tryz.prog 102 #[.pointer (some ⟨d, 0, none⟩), .int .i64 f] w fun e w' => e = .returned (.int .i64 (there m f)) ∧ w = w' := by
  obtain ⟨A, c, lv, kv, left, h⟩ := h
  obtain ⟨k0, k1, k2, k3, k4, k5, k6⟩ := Cel.at7 h.cel
  have con := at_ok w d m.files f A c k1 h.files h.inv.few
  unfold there
  cases ho : m.off
  · rw [ho] at k3
    rw [if_neg (by simp)]
    by_cases hm : f ∈ m.files
    · rw [if_pos hm]
      have e : atI f m.files = (m.files.idxOf f : Nat) := if_pos hm
      rw [e] at con
      clear h k0 k1 k2 k4 k5 k6 e hm ho
      go_enter Tryz.func102, Tryz.ntmps102
      go_wp2_with (first | (go_at_call 32; refine con.mono ?_; rintro e w' ⟨rfl, rfl⟩))
      go_ret
      exact ⟨rfl, rfl⟩
    · rw [if_neg hm]
      have e : atI f m.files = -1 := if_neg hm
      rw [e] at con
      clear h k0 k1 k2 k4 k5 k6 e hm ho
      go_enter Tryz.func102, Tryz.ntmps102
      go_wp2_with (first | (go_at_call 32; refine con.mono ?_; rintro e w' ⟨rfl, rfl⟩))
      go_ret
      exact ⟨rfl, rfl⟩
  · rw [ho] at k3
    rw [if_pos rfl]
    clear h k0 k1 k2 k4 k5 k6 con ho
    go_enter Tryz.func102, Tryz.ntmps102
    go_wp2_with fail
    go_ret
    exact ⟨rfl, rfl⟩
end Go.Proofs.YtdaknfepcbooeaaGreat.Disk
