/-
  What the library's functions that layer 3 (sector) calls come to: slices.Grow, slices.Concat, slices.Reverse, at bytes.
-/
import Derived.Test.YtdaknfepcbooeaaGreatMPackRead
import Derived.Lib.AppendZerosOnto
import Derived.BigRegion
namespace Go.Proofs.YtdaknfepcbooeaaGreat.Sector
open Go.RowKit Go.Proofs.YtdaknfepcbooeaaGreat.Pack
set_option linter.unusedVariables false

/-- append, by the equation of its run. -/
theorem wpList_append_run {P : Program} {w : World} {ops : Array Oper} {rest : List Oper} {o : Oper} {a : Act} {Q : Exit → Act → World → Prop} (hgd : o.guard = none) (s x : Operand) (t tn : TypeId)
    (ho : o.op = .call { callee := .builtin .append, args := #[s, x], argTypes := #[t, tn] }) (v u : Value) (hs : a.eval s = v) (hx : a.eval x = u) (r : Value) (w' : World)
    (hrun : (Builtin.append_ #[t, tn] o.type #[v, u]).run P w = .ok r w') (h : wpList P ops Q rest (a.put o.dst r) w') : wpList P ops Q (o :: rest) a w := by
  refine wpList_plain hgd fun _ hK => ?_
  unfold Oper.wp execOp
  simp only [ho, resolve, invoke, builtin, Sem.run_bind, Sem.run_pure, Result.andThen_ok, List.map_toArray, List.map_cons, List.map_nil, hs, hx, hrun]
  exact hK _ _ h

set_option maxRecDepth 100000 in
set_option maxHeartbeats 1000000 in
theorem grow (n : Nat) (w : World) (h0 : 0 < n) (hn : n ≤ 1000000) :
    Calls Tryz.prog 158 #[.slice none 0 0, .int .i64 (n : Int)] w fun e w' => ∃ A c, e = .returned (.slice A 0 c) ∧ Own w' w.heap.size A 0 c [] ∧ Below w.heap.size w w' := by
  obtain ⟨i, hi, hz, hsz, hby⟩ := bytesT.info
  have hrun := fun (ty : TypeId) (k : Int) (hk : k = (n : Int)) => hk ▸ Lib.run_append_grow_zeros (P := Tryz.prog) w 44 3 ty 5 i (.int .u8 0) .i64 .i64 Tryz.underlying44 Tryz.underlying3 hi hz none 0 0 [] (run_firstCells_none w.drew i.size 0 0 0) n h0 (by omega) (by omega) (by omega) (by rw [hby]; omega)
    (by rw [hby]; exact growslice_fits (by omega) (by omega))
  have h1 : decide ((n : Int) < 0) = false := by simp
  have h2 : decide ((0 : Int) < (n : Int)) = true := by simp; omega
  obtain ⟨G, hG⟩ : ∃ G, G = grownCap w (0 + n) 0 5 := ⟨_, rfl⟩
  have hG1 := grownCap_ge w (0 + n) 0 5
  have hG2 := grownCap_le_maxLen w (0 + n) 0 5 (by unfold maxLen; omega)
  rw [← hG] at hrun hG1 hG2
  have hrun0 := fun ty => hrun ty n rfl
  clear hrun hG
  obtain ⟨cur, hcur, hcs⟩ : ∃ cur, cur = ([] : List Value).toArray ++ Builtin.zeroCells (Value.cells (.int .u8 0)) n ++ Builtin.zeroCells (Value.cells (.int .u8 0)) (G - (0 + n)) ∧ cur.size = G := by
    refine ⟨_, rfl, ?_⟩
    simp [Builtin.zeroCells, Value.cells]
    omega
  rw [← hcur] at hrun0
  clear hcur
  simp only [Nat.zero_add] at hrun0 hG1
  have HG2 := Lib.hid hG2
  unfold maxLen at hG2
  have HCS := Lib.hid hcs
  have HRUN := Lib.hid hrun0
  clear hcs hrun0
  go_enter Tryz.func158, Tryz.ntmps158
  go_wp2_with ((at_builtin; refine wpList_append_run rfl _ _ 44 3 rfl (.slice none 0 0) (.int .i64 (n : Int)) rfl rfl _ _ (HRUN.out _) ?_))
  go_ret
  refine ⟨_, _, rfl, ⟨rfl, .inr ⟨w.heap.size, G, cur, rfl, Nat.le_refl _, ?_, Nat.zero_le _, HG2.out, by simp [HCS.out], by simp⟩⟩, (Below.refl _ _).drew.alloc (Nat.le_refl _) _⟩
  exact heap_alloc_new w.drew _

/-- A slice of bytes that is handed over among others. -/
structure Sl where
  A : Option Addr
  n : Nat
  c : Nat
  bs : List (BitVec 8)
def Sl.val (s : Sl) : Value := .slice s.A s.n s.c
def tot : List Sl → Nat
  | [] => 0
  | s :: r => s.n + tot r
def flat : List Sl → List (BitVec 8)
  | [] => []
  | s :: r => s.bs ++ flat r
theorem tot_snoc (l : List Sl) (s : Sl) : tot (l ++ [s]) = tot l + s.n := by
  induction l with
  | nil => simp [tot]
  | cons a l ih => simp only [List.cons_append, tot, ih]; omega
theorem flat_snoc (l : List Sl) (s : Sl) : flat (l ++ [s]) = flat l ++ s.bs := by
  induction l with
  | nil => simp [flat]
  | cons a l ih => simp only [List.cons_append, flat, ih, List.append_assoc]
theorem tot_take_le (l : List Sl) (k : Nat) : tot (l.take k) ≤ tot l := by
  induction l generalizing k with
  | nil => simp [tot]
  | cons a l ih =>
    cases k with
    | zero => simp [tot]
    | succ k => simp only [List.take_succ_cons, tot]; have := ih k; omega

set_option maxRecDepth 100000 in
set_option maxHeartbeats 1000000 in
theorem concat (g B cap : Nat) (ps : List Sl) (w : World) (hc : Cel w g 44 (ps.map Sl.val)) (hps : ∀ s ∈ ps, Bs w B s.A s.n s.bs) (hB : B ≤ w.heap.size) (h0 : 0 < tot ps) (hm : tot ps ≤ 1000000) (hl : ps.length ≤ 1000) :
    Calls Tryz.prog 145 #[.slice (some ⟨g, 0, none⟩) ps.length cap] w fun e w' => ∃ A c, e = .returned (.slice A (tot ps) c) ∧ Own w' w.heap.size A (tot ps) c (flat ps) ∧ Below w.heap.size w w' := by
  have HC := Lib.hid hc
  have HP := Lib.hid hps
  clear hc hps
  go_enter Tryz.func145, Tryz.ntmps145
  go_wp2_with fail
  go_loop [3, 11] (fun x i => ∃ k : Nat, k ≤ ps.length ∧ i = .int .i64 (k : Int) ∧ x = .int .i64 (tot (ps.take k) : Int)) (fun _ i => ps.length - (intOf i).toNat)
  case atStart => exact ⟨0, Nat.zero_le _, rfl, rfl⟩
  case round =>
    obtain ⟨k, hk, rfl, rfl⟩ := hrel
    by_cases hlt : k < ps.length
    · obtain ⟨s, hs⟩ : ∃ s, ps[k]? = some s := ⟨ps[k], List.getElem?_eq_getElem hlt⟩
      have hcell : w.cell? ⟨g, k, none⟩ = some (.slice s.A s.n s.c) := by
        rw [HC.out.cell, List.getElem?_map, hs]; rfl
      have ht : tot (ps.take (k + 1)) = tot (ps.take k) + s.n := by
        rw [List.take_add_one, hs]; exact tot_snoc _ _
      have hle := tot_take_le ps (k + 1)
      have hle2 := tot_take_le ps k
      have hsn : tot (ps.take k) + s.n ≤ 1000000 := by omega
      have HT := Lib.hid ht
      have HS := Lib.hid hs
      clear ht hs hle
      go_wp2_with fail
      go_round
      case rel => exact ⟨k + 1, by omega, by go_num, by rw [HT.out]; go_num⟩
      case measure => simp [intOf]; omega
    · have hkl : k = ps.length := by omega
      subst hkl
      rw [List.take_length]
      go_wp2_with fail
      refine (grow (tot ps) _ h0 hm).mono ?_
      rintro e w1 ⟨A1, c1, rfl, ho1, hb1⟩
      have s1 := hb1.size
      have O1 := Lib.hid ho1
      clear ho1
      go_wp2_with fail
      go_loopw [6, 27] (fun v i wr => ∃ (k : Nat) (A : Option Addr) (c : Nat), k ≤ ps.length ∧ i = .int .i64 (k : Int) ∧ v = .slice A (tot (ps.take k)) c ∧ Own wr w.heap.size A (tot (ps.take k)) c (flat (ps.take k)) ∧ Below w.heap.size w wr) (fun _ i _ => ps.length - (intOf i).toNat)
      case atStart => exact ⟨0, _, _, Nat.zero_le _, rfl, rfl, O1.out, hb1⟩
      case round =>
        obtain ⟨k, A, c, hk, rfl, rfl, ho, hb⟩ := hrel
        have O := Lib.hid ho
        clear ho
        by_cases hlt : k < ps.length
        · obtain ⟨s, hs⟩ : ∃ s, ps[k]? = some s := ⟨ps[k], List.getElem?_eq_getElem hlt⟩
          have hcell : wr.cell? ⟨g, k, none⟩ = some (.slice s.A s.n s.c) := by
            rw [(HC.out.below hb HC.out.lt).cell, List.getElem?_map, hs]; rfl
          have ht : tot (ps.take (k + 1)) = tot (ps.take k) + s.n := by
            rw [List.take_add_one, hs]; exact tot_snoc _ _
          have hf : flat (ps.take (k + 1)) = flat (ps.take k) ++ s.bs := by
            rw [List.take_add_one, hs]; exact flat_snoc _ _
          have hle := tot_take_le ps (k + 1)
          have hsn : tot (ps.take k) + s.n ≤ 1000000 := by omega
          have hbs := Lib.hid ((HP.out s (List.mem_of_getElem? hs)).below (hb.mono hB))
          have HT := Lib.hid ht
          have HF := Lib.hid hf
          clear ht hs hle hf
          have sr := hb.size
          go_wp2_with ((at_builtin; refine wpList_append_bs _ rfl _ _ 44 rfl w.heap.size 5 bytesT (.slice A (tot (ps.take k)) c) (tot (ps.take k)) (flat (ps.take k)) rfl O.out B s.A s.n s.c s.bs rfl hbs.out (tot (ps.take k) + s.n) (flat (ps.take k) ++ s.bs) rfl rfl (by omega) sr ?_; intro A3 c3 w3 o3 g3 _))
          have hb3 := Lib.hid (hb.grown g3 sr (fun g hg => (O.out.lt g hg).1))
          have O3 := Lib.hid o3
          clear g3 o3
          go_roundw
          case rel => exact ⟨k + 1, A3, c3, by omega, by go_num, by rw [HT.out], by rw [HT.out, HF.out]; exact O3.out, hb3.out⟩
          case measure => simp [intOf]; omega
        · have hkl : k = ps.length := by omega
          subst hkl
          rw [List.take_length] at O
          rw [List.take_length]
          go_wp2_with fail
          go_ret
          exact ⟨A, c, rfl, O.out, hb⟩

/-- Four bytes, k pairs of which are exchanged. -/
def turned (a b c d : BitVec 8) : Nat → List (BitVec 8)
  | 0 => [a, b, c, d]
  | 1 => [d, b, c, a]
  | _ => [d, c, b, a]
theorem own_form {w : World} {B : Nat} {A : Option Addr} {n c : Nat} {bs : List (BitVec 8)} (h : Own w B A n c bs) (hn : 0 < n) : ∃ g, A = some ⟨g, 0, none⟩ ∧ B ≤ g ∧ g < w.heap.size := by
  obtain ⟨g, cap, hv, hg, hl⟩ := h.form hn
  injection hv with h1 _ _
  exact ⟨g, h1, hg, hl⟩

set_option maxRecDepth 100000 in
set_option maxHeartbeats 1000000 in
theorem reverse4 (B : Nat) (A : Option Addr) (cp : Nat) (a b c d : BitVec 8) (w : World) (ho : Own w B A 4 cp [a, b, c, d]) :
    Calls Tryz.prog 148 #[.slice A 4 cp] w fun e w' => e = .returned (.tuple #[]) ∧ Own w' B A 4 cp [d, c, b, a] ∧ Below B w w' := by
  obtain ⟨g, rfl, hg, hl⟩ := own_form ho (by decide)
  have O := Lib.hid ho
  clear ho
  go_enter Tryz.func148, Tryz.ntmps148
  go_wp2_with fail
  go_loopw [2, 3] (fun i j wr => ∃ k : Nat, k ≤ 2 ∧ i = .int .i64 (k : Int) ∧ j = .int .i64 (3 - (k : Int)) ∧ Own wr B (some ⟨g, 0, none⟩) 4 cp (turned a b c d k) ∧ Below B w wr) (fun i _ _ => 2 - (intOf i).toNat)
  case atStart => exact ⟨0, by decide, rfl, rfl, O.out, Below.refl _ _⟩
  case round =>
    obtain ⟨k, hk, rfl, rfl, ho, hb⟩ := hrel
    have hk' : k = 0 ∨ k = 1 ∨ k = 2 := by omega
    rcases hk' with rfl | rfl | rfl
    · have c0 : wr.cell? ⟨g, 0, none⟩ = some (v8 a) := ho.cellAt 0 (by decide)
      have c3 : wr.cell? ⟨g, 3, none⟩ = some (v8 d) := ho.cellAt 3 (by decide)
      have f0 : wr.frozen? ⟨g, 0, none⟩ = false := ho.frozenAt 0
      have f3 : wr.frozen? ⟨g, 3, none⟩ = false := ho.frozenAt 3
      have HO := Lib.hid ho
      clear ho
      go_wp2_with fail
      go_region
      all_goals go_wp2_with fail
      all_goals go_roundw
      case rel => exact ⟨1, by decide, rfl, rfl, ((HO.out.stored 0 (v8 d)).1.stored 3 (v8 a)).1, ((hb.setCell hg _).setCell hg _).drew⟩
      case measure => simp [intOf]
    · have c1 : wr.cell? ⟨g, 1, none⟩ = some (v8 b) := ho.cellAt 1 (by decide)
      have c2 : wr.cell? ⟨g, 2, none⟩ = some (v8 c) := ho.cellAt 2 (by decide)
      have f1 : wr.frozen? ⟨g, 1, none⟩ = false := ho.frozenAt 1
      have f2 : wr.frozen? ⟨g, 2, none⟩ = false := ho.frozenAt 2
      have HO := Lib.hid ho
      clear ho
      go_wp2_with fail
      go_region
      all_goals go_wp2_with fail
      all_goals go_roundw
      case rel => exact ⟨2, by decide, rfl, rfl, ((HO.out.stored 1 (v8 c)).1.stored 2 (v8 b)).1, ((hb.setCell hg _).setCell hg _).drew⟩
      case measure => simp [intOf]
    · have HO := Lib.hid ho
      clear ho
      go_wp2_with fail
      go_end0
      exact ⟨rfl, HO.out, hb⟩

end Go.Proofs.YtdaknfepcbooeaaGreat.Sector
