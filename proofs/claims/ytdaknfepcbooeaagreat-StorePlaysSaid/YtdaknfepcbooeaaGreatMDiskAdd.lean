/-
  The order add: the bytes become the last sector of the file.
-/
import Derived.Test.YtdaknfepcbooeaaGreatMDiskOrd
import Derived.Deep.MidRow
import Derived.Great.FillDense
import Derived.Laws.Tables
import Derived.Maps.AppendAt
namespace Go.Proofs.YtdaknfepcbooeaaGreat.Disk
open Go.RowKit Go.Maps Go.Proofs.YtdaknfepcbooeaaGreat.Ord
set_option linter.unusedVariables false
set_option linter.unusedSimpArgs false

/-- Rows of sectors alone are written. -/
def Tb : Obj → Prop
  | .cells _ t _ => t = 126
  | _ => False
theorem Tb_Dob (o : Obj) (h : Tb o) : Dob o := by
  cases o with
  | cells _ t _ => exact .inr h
  | _ => cases h
theorem not_Tb {cs : Array Value} {t : TypeId} {fz : Nat × Nat} (h : t ≠ 126) : ¬ Tb (.cells cs t fz) := fun h' => h h'
theorem arr512 : Tryz.prog.underlying 124 = some (.array 512 5) := by kernel_rfl
theorem infoB : (Tryz.prog.info? 126).map (fun i => (i.zero, i.size, i.bytes)) = some (some (.agg (List.replicate 512 (v8 0#8) ++ [Value.bool false]).toArray), 513, 513) := by kernel_rfl
theorem undB : Tryz.prog.underlying 87 = some (.slice 126) := by kernel_rfl

/-- Bytes that no call of the disk's writes to: below B, or in a block of another kind. -/
def Bn (w : World) (B : Nat) (A : Option Addr) (n : Nat) (bs : List (BitVec 8)) : Prop :=
  bs.length = n ∧ (0 < n → ∃ ad o, A = some ad ∧ w.heap[ad.block]? = some o ∧ (ad.block < B ∨ ¬ Dob o) ∧ ∀ j, j < n → w.cell? (ad.add j) = some (v8 (bs.getD j 0#8)))
theorem Bn.chg {w w' : World} {B : Nat} {A : Option Addr} {n : Nat} {bs : List (BitVec 8)} {T : Obj → Prop} (h : Bn w B A n bs) (hc : Chg B T w w') (hT : ∀ o, T o → Dob o) : Bn w' B A n bs := by
  refine ⟨h.1, fun hn => ?_⟩
  obtain ⟨ad, o, e, ho, hk, hcell⟩ := h.2 hn
  have hb := hc.block _ _ ho (hk.imp id (fun hn ht => hn (hT o ht)))
  exact ⟨ad, o, e, hb, hk, fun j hj => (World.cell?_of_block (by rw [add_block, hb, ho])).trans (hcell j hj)⟩
theorem Bn.below {w w' : World} {B : Nat} {A : Option Addr} {n : Nat} {bs : List (BitVec 8)} (h : Bn w B A n bs) (hb : Below w.heap.size w w') : Bn w' B A n bs :=
  h.chg (T := fun _ => False) (Chg.of_below hb) (fun _ h => h.elim)
theorem Bn.range {w : World} {B ab ao n : Nat} {bs : List (BitVec 8)} (h : Bn w B (some ⟨ab, ao, none⟩) n bs) : w.rangeAt ab ao (bs.map v8) := fun j v hv => by
  have hj : j < bs.length := by
    rcases Nat.lt_or_ge j bs.length with h' | h'
    · exact h'
    · rw [List.getElem?_eq_none (by simpa using h')] at hv; cases hv
  obtain ⟨ad, o, e, ho, hk, hcell⟩ := h.2 (by rw [← h.1]; omega)
  cases e
  have := hcell j (by rw [← h.1]; exact hj)
  rw [Addr.add_lit] at this
  rw [this, List.getD_eq_getElem?_getD, List.getElem?_eq_getElem hj]
  rw [List.getElem?_map, List.getElem?_eq_getElem hj] at hv
  exact hv

section
variable {P : Program}
theorem built_one {t : TypeId} {z : Array Value} {places : List (Nat × Nat)} (hz : (P.info? t).bind (·.zero) = some (.agg z))
    (hp : (P.underlying t).bind (fun d => match d with | .struct fields => fields.toList.mapM (fun f => (P.info? f.type).map fun i => (f.offset, i.size)) | _ => none) = some places) (v : Value) :
    P.built t [(0, v)] = Instr.fill (places.toArray[·]?) z [(0, v)] := by
  unfold Program.built
  cases hi : P.info? t with
  | none => rw [hi] at hz; cases hz
  | some it =>
    rw [hi] at hz
    cases hu : P.underlying t with
    | none => rw [hu] at hp; cases hp
    | some d =>
      rw [hu] at hp
      cases d <;> try (cases hp; done)
      case struct fields =>
        simp only [Option.bind_some] at hz hp
        simp only [hz, hp]
        rfl
theorem fill_first {p : Nat → Option (Nat × Nat)} {n : Nat} (hp : p 0 = some (0, n)) (hn : 0 < n) (cells : Array Value) (us : List Value) (hl : us.length = n) (hc : n ≤ cells.size) :
    ∃ r, Instr.fill p cells [(0, .agg us.toArray)] = some r ∧ r.toList = us ++ cells.toList.drop n := by
  have e : Instr.fill p cells [(0, .agg us.toArray)] = Instr.fill (fun i => some (i * n, n)) cells [(0, .agg us.toArray)] := by
    simp only [Instr.fill, hp, Nat.zero_mul]
  obtain ⟨r, h1, h2, h3⟩ := Great.fill_dense (s := n) hn [.agg us.toArray] 0 cells (fun v hv => by rw [List.mem_singleton.1 hv]; simpa [Value.cells] using hl) (by simpa using hc)
  refine ⟨r, by rw [e]; exact h1, ?_⟩
  apply List.ext_getElem?
  intro k
  have := h3 k
  rw [Array.getElem?_toList, this]
  by_cases hk : k < n
  · rw [if_pos (by simp; omega), List.getElem?_append_left (by omega), Nat.div_eq_of_lt hk, Nat.mod_eq_of_lt hk]
    simp [Value.cells]
  · rw [if_neg (by simp; omega), List.getElem?_append_right (by omega), List.getElem?_drop, hl, Nat.add_sub_cancel' (by omega)]
    simp
theorem run_buildSlice_one {t e : TypeId} {zs : List Value} {n : Nat} (ht : P.underlying t = some (.slice e)) (hi : (P.info? e).map (fun i => (i.zero, i.size)) = some (some (.agg zs.toArray), n)) (hz : zs.length = n) (hn : 0 < n) (hs : n ≤ 16777216) (us : List Value) (hl : us.length = n) (w : World) :
    (Instr.buildSlice t 1 #[(0, .agg us.toArray)]).run P w = .ok (.slice (some ⟨w.heap.size, 0, none⟩) 1 1) (w.alloc (.cells us.toArray e)) := by
  obtain ⟨hzv, hsz⟩ := zero_of_info hi
  have hso : ∀ w, (sizeOf e).run P w = .ok n w := fun w => by
    cases hq : P.info? e with
    | none => rw [hq] at hi; cases hi
    | some i => rw [hq] at hi; simp at hi; simp [sizeOf, typeInfo, hq, hi.2]
  obtain ⟨r, h1, h2⟩ := fill_first (p := fun i => some (i * n, n)) (n := n) (by simp) hn ((Array.range (1 * n)).map (zs.toArray[· % zs.toArray.size]!)) us hl (by simp)
  have hr : r = us.toArray := by
    apply Array.ext'
    rw [h2, List.drop_eq_nil_of_le (by simp)]
    simp
  subst hr
  unfold Instr.buildSlice
  have hn0 : n ≠ 0 := by omega
  have hns : ¬ (2 ^ 24 < n) := by omega
  simp at h1
  simp [run_underlying ht, hso, hzv, hn0, hns, Value.cells, h1, newRow]

theorem yieldsIf_build {ops : Array Oper} {S : World → Prop} {op : Oper} {a : Act} (hw : Region.wanted op (yielded ops a.tmps) = true) (t : TypeId) (i : Nat) (x : Operand) (ho : op.op = .build t #[(i, x)]) (u : Value) (hx : a.eval x = u) (v : Value)
    (h : ∀ w, (Instr.build t #[(i, u)]).run P w = .ok v w) : YieldsIf P ops S op v a :=
  .inl ⟨hw, fun w _ => by
    unfold execOp
    simp only [ho, Sem.run_bind, Sem.run_pure, Result.andThen_ok, List.map_toArray, List.map_cons, List.map_nil, hx, h w]⟩
theorem wp_buildSlice' {o : Oper} {a : Act} {w w' : World} {K : Act → World → Prop} {Q : Exit → Act → World → Prop} (t : TypeId) (n i : Nat) (x : Operand) (ho : o.op = .buildSlice t n #[(i, x)]) (u : Value) (hx : a.eval x = u) (v : Value)
    (h : (Instr.buildSlice t n #[(i, u)]).run P w = .ok v w') (hK : K (a.put o.dst v) w') : o.wp P a w K Q := by
  unfold Oper.wp execOp
  simp only [ho, Sem.run_bind, Sem.run_pure, Result.andThen_ok, List.map_toArray, List.map_cons, List.map_nil, hx, h]
  exact hK

/-- append of elements onto a row of the call's own, and which block it lies in then. -/
theorem wp_append_row' (w : World) {o : Oper} {a : Act} {K : Act → World → Prop} {Q : Exit → Act → World → Prop} (s x : Operand) (t : TypeId)
    (ho : o.op = .call { callee := .builtin .append, args := #[s, x], argTypes := #[t, t] }) (base : Nat) (e : TypeId) (i : TypeInfo) (z : Value) (size bytes : Nat) (ht : P.underlying t = some (.slice e)) (hi : P.info? e = some i) (hz : i.zero = some z)
    (hsize : i.size = size) (hby : i.bytes = bytes) (hzs : z.cells.size = size) (hsz : 0 < size)
    (v : Value) (n : Nat) (us : List Value) (hs : a.eval s = v) (hown : w.ownsRow base e size v n us)
    (ad : Addr) (m c : Nat) (news : List Value) (hx : a.eval x = .slice (some ad) m c) (hl : news.length = m * size) (hnews : ∀ j u, news[j]? = some u → w.cell? (ad.add j) = some u) (h1 : ∀ u ∈ news, u.oneCell' = true)
    (h63 : n + m ≤ maxLen) (hbytes : (n + m) * bytes ≤ 140737488355328) (hbase : base ≤ w.heap.size) (hpos : 0 < n + m)
    (h : ∀ A' c' w', w'.ownsRow base e size (.slice A' (n + m) c') (n + m) (us ++ news) → w.grownBy w' v.ownBlock → ((Value.slice A' (n + m) c').ownBlock = v.ownBlock ∨ (Value.slice A' (n + m) c').ownBlock = some w.heap.size) → K (a.put o.dst (.slice A' (n + m) c')) w') : o.wp P a w K Q := by
  obtain ⟨v', w', hrun, h2, h3, _, h5⟩ := run_append_own_at (P := P) w base t o.type e i z size bytes ht hi hz hsize hby hzs hsz v n us hown ad m c news hl hnews h1 h63 hbytes hbase
  have hv : ∃ A' c', v' = .slice A' (n + m) c' := by
    rcases h2.2 with ⟨rfl, h0⟩ | ⟨g, cap, cur, rfl, _⟩
    · omega
    · exact ⟨_, _, rfl⟩
  obtain ⟨A', c', rfl⟩ := hv
  unfold Oper.wp execOp
  simp only [ho, resolve, invoke, builtin, Sem.run_bind, Sem.run_pure, Result.andThen_ok, List.map_toArray, List.map_cons, List.map_nil, hs, hx, hrun]
  exact h A' c' w' h2 h3 h5
end

theorem lookV_row {w : World} {B d b : Nat} {m : M} {vs : Int → Value} {kv : Value} (h : Dv w B d m b vs kv) (f : Int) : Rw w B (lookV m.files vs f) (rows f m.l) := by
  unfold lookV
  by_cases hf : f ∈ m.files
  · rw [if_pos hf]; exact h.rows f hf
  · rw [if_neg hf, h.inv.none_ hf]; exact World.ownsRow_nil _ _ _ _
/-- A sector was appended, and its row stored. -/
theorem Dv.added {w w1 w2 : World} {B d b : Nat} {m : M} {vs : Int → Value} {kv : Value} (h : Dv w B d m b vs kv) (hB : B ≤ w.heap.size) (f : Int) (bs : List (BitVec 8)) (v' : Value) (hg1 : w.grownBy w1 (lookV m.files vs f).ownBlock) (hr1 : Rw w1 B v' (Disk.rows f m.l ++ [⟨bs, false⟩]))
    (hob : v'.ownBlock = (lookV m.files vs f).ownBlock ∨ v'.ownBlock = some w.heap.size) (hg2 : w1.grownBy w2 (some b)) (hm : Mp w2 b (add f m.files) (upd vs f v')) (hi : Inv { m with files := add f m.files, l := m.l ++ [⟨f, bs, false⟩] }) :
    Dv w2 B d { m with files := add f m.files, l := m.l ++ [⟨f, bs, false⟩] } b (upd vs f v') kv ∧ Chg B Dob w w2 := by
  have hrow := lookV_row h f
  have hc1 := hrow.chg hg1
  obtain ⟨es, clock, hb, hmr⟩ := h.map
  have hbl := (Array.getElem?_eq_some_iff.1 hb).1
  have hb1 : ∃ es clock, w1.heap[b]? = some (.map es clock) := by
    refine ⟨es, clock, ?_⟩
    rw [hg1.block b hbl (fun e => ?_), hb]
    rcases hrow.cases with ⟨e0, _⟩ | ⟨g, cap, e0, _, _, cur, hg⟩
    · rw [e0] at e; cases e
    · rw [e0] at e; cases e; rw [hb] at hg; cases hg
  obtain ⟨es1, cl1, hb1⟩ := hb1
  have hc2 : Chg B Dob w1 w2 := (Chg.refl B Dob w1).grown hg2 fun g e => by cases e; exact .inr ⟨h.own.2, _, hb1, trivial⟩
  have hk2 : ∀ k cs t fz, w1.heap[k]? = some (Obj.cells cs t fz) → w2.heap[k]? = some (Obj.cells cs t fz) := fun k cs t fz hk => by
    rw [hg2.block k (Array.getElem?_eq_some_iff.1 hk).1 (fun e => by rw [Option.some.inj e, hb1] at hk; cases hk), hk]
  have hrowk : ∀ v xs, Rw w1 B v xs → Rw w2 B v xs := fun v xs hr => by
    refine World.ownsRow.kept hr hg2 ?_
    rcases hr.cases with ⟨e, _⟩ | ⟨g, cap, e, _, _, cur, hbg⟩
    · rw [e]; exact .inl rfl
    · rw [e]; exact .inr fun e' => by have e'' := Option.some.inj e'; dsimp only at e''; rw [e'', hb1] at hbg; cases hbg
  have hapart : ∀ g ∈ m.files, g ≠ f → ∀ k, (vs g).ownBlock = some k → (lookV m.files vs f).ownBlock ≠ some k := fun g hg hne k hk => by
    unfold lookV
    by_cases hf : f ∈ m.files
    · rw [if_pos hf]; exact h.apart g hg f hf hne k hk
    · rw [if_neg hf]; simp [Value.ownBlock]
  have hmem : ∀ g, g ∈ add f m.files → g ≠ f → g ∈ m.files := fun g hg hne => ((mem_add f g m.files).1 hg).resolve_left hne
  refine ⟨⟨hi, ?_, h.own, hm, fun g hg => ?_, fun g hg g' hg' hne k hk => ?_, fun k ks e => ((h.keep k ks e).chg hc1 (by rintro cs fz (h | h) <;> revert h <;> decide)).chg hc2 (by rintro cs fz (h | h) <;> revert h <;> decide)⟩, hc1.trans hc2⟩
  · refine hk2 _ _ _ _ ?_
    have hd := h.cel
    unfold Cel at hd
    rw [hg1.block d (Array.getElem?_eq_some_iff.1 hd).1 (fun e => ?_), hd]
    rcases hrow.cases with ⟨e0, _⟩ | ⟨g, cap, e0, _, _, cur, hg⟩
    · rw [e0] at e; cases e
    · rw [e0] at e; cases e; rw [hd] at hg; simp at hg
  · show Rw w2 B (upd vs f v' g) (Disk.rows g (m.l ++ [(⟨f, bs, false⟩ : Cl)]))
    rw [rows_app, upd_at]
    by_cases e : g = f
    · subst e
      rw [if_pos rfl]
      have : Disk.rows g [(⟨g, bs, false⟩ : Cl)] = [⟨bs, false⟩] := by simp [Disk.rows, Cl.sc]
      rw [this]
      exact hrowk _ _ hr1
    · rw [if_neg e]
      have : Disk.rows g [(⟨f, bs, false⟩ : Cl)] = [] := by simp [Disk.rows, Ne.symm e]
      rw [this, List.append_nil]
      refine hrowk _ _ (World.ownsRow.kept (h.rows g (hmem g hg e)) hg1 ?_)
      cases hv : (vs g).ownBlock with
      | none => exact .inl rfl
      | some k => exact .inr fun e' => hapart g (hmem g hg e) e k hv e'.symm
  · rw [upd_at] at hk ⊢
    by_cases e : g = f
    · rw [if_pos e] at hk
      rw [if_neg (fun e' => hne (e.trans e'.symm))]
      have hg3 := hmem g' hg' (fun e' => hne (e.trans e'.symm))
      intro hk'
      rcases hob with ho | ho
      · exact hapart g' hg3 (fun e' => hne (e.trans e'.symm)) k hk' (ho ▸ hk)
      · rw [ho] at hk
        have := (World.ownsRow.lt (h.rows g' hg3) k hk').2
        have := Option.some.inj hk
        omega
    · rw [if_neg e] at hk
      have hg3 := hmem g hg e
      by_cases e' : g' = f
      · rw [if_pos e']
        intro hk'
        rcases hob with ho | ho
        · exact hapart g hg3 e k hk (ho ▸ hk')
        · rw [ho] at hk'
          have := (World.ownsRow.lt (h.rows g hg3) k hk).2
          have := Option.some.inj hk'
          omega
      · rw [if_neg e']
        exact h.apart g hg3 g' (hmem g' hg' e') hne k hk

set_option maxRecDepth 100000 in
set_option maxHeartbeats 2000000 in
theorem o_add (w : World) (B d b : Nat) (m : M) (vs : Int → Value) (kv : Value) (f t : Int) (ab ao c : Nat) (bs : List (BitVec 8)) (h : Dv w B d m b vs kv) (hf : 0 ≤ f ∧ f < 9223372036854775808) (hB : B ≤ w.heap.size)
    (hbs : Bn w B (some ⟨ab, ao, none⟩) 512 bs) (hr : (rows f m.l).length < 200) (hi : Inv { m with files := add f m.files, l := m.l ++ [⟨f, bs, false⟩] }) :
    Calls Tryz.prog 52 #[ordV d f t (some ⟨ab, ao, none⟩) 512 c] w fun e w' => e = .returned (.tuple #[]) ∧ (∃ vs', Dv w' B d { m with files := add f m.files, l := m.l ++ [⟨f, bs, false⟩] } b vs' kv) ∧ Chg B Dob w w' := by
  obtain ⟨W, hWe⟩ : ∃ W, W = w.alloc (.cells #[.pointer (some ⟨d, 0, none⟩), .int .i64 f, .int .i64 t, .slice (some ⟨ab, ao, none⟩) 512 c] 90) := ⟨_, rfl⟩
  have hW : Dv W B d m b vs kv := by rw [hWe]; exact h.alloc _
  have hWb : Below w.heap.size w W := by rw [hWe]; exact (Below.refl _ _).alloc (Nat.le_refl _) _
  have hbW := hbs.below hWb
  have hbx : Cel W w.heap.size 90 [.pointer (some ⟨d, 0, none⟩), .int .i64 f, .int .i64 t, .slice (some ⟨ab, ao, none⟩) 512 c] := by rw [hWe]; exact Cel.new w 90 [.pointer (some ⟨d, 0, none⟩), .int .i64 f, .int .i64 t, .slice (some ⟨ab, ao, none⟩) 512 c]
  obtain ⟨cs, hcs⟩ : ∃ cs, cs = bs.map v8 := ⟨_, rfl⟩
  have hcl : cs.length = 512 := by rw [hcs, List.length_map, ← hbs.1]
  have hsc : (Tryz.prog.info? 124).map (·.size) = some cs.length := by rw [hcl]; exact (zero_of_info zeroA).2
  have hbox : ∀ V : World, Chg B Tb W V → V.cell? ⟨w.heap.size, 0, none⟩ = some (.pointer (some ⟨d, 0, none⟩)) ∧ V.cell? ⟨w.heap.size, 1, none⟩ = some (.int .i64 f) ∧ V.cell? ⟨w.heap.size, 2, none⟩ = some (.int .i64 t) ∧ V.cell? ⟨w.heap.size, 3, none⟩ = some (.slice (some ⟨ab, ao, none⟩) 512 c) := fun V hV => by
    have := Cel.chg hbx hV (not_Tb (by decide))
    exact ⟨this.cell 0, this.cell 1, this.cell 2, this.cell 3⟩
  have hdsk : ∀ V : World, Chg B Tb W V → V.cell? ⟨d, 2, none⟩ = some (.map (some b)) := fun V hV =>
    (Cel.chg hW.cel hV (not_Tb (by decide))).cell 2
  obtain ⟨v, hv⟩ : ∃ v, v = lookV m.files vs f := ⟨_, rfl⟩
  have hlkV : ∀ V : World, Chg B Tb W V → (Instr.lookup 63 (.map (some b)) (.int .i64 f) false).run Tryz.prog V = .ok v V := fun V hV => by
    rw [hv]; exact (hW.map.chg hV (fun _ _ h => h)).look ⟨by omega, hf.2⟩
  have hs2a : ∀ V : World, (Instr.arrayAt 124 (.slice (some ⟨ab, ao, none⟩) 512 c)).run Tryz.prog V = .ok (.pointer (some ⟨ab, ao, none⟩)) V := fun V => by simp [Instr.arrayAt, run_underlying arr512]
  have hrg : ∀ V : World, Chg B Tb W V → V.rangeAt ab ao cs := fun V hV => by rw [hcs]; exact (hbW.chg hV Tb_Dob).range
  have hbuild : ∀ V : World, (Instr.build 126 #[(0, .agg cs.toArray)]).run Tryz.prog V = .ok (.agg (cs ++ [Value.bool false]).toArray) V := fun V => by
    refine run_build V 126 _ _ ?_
    have e := built_one (P := Tryz.prog) (t := 126) (z := (List.replicate 512 (v8 0#8) ++ [Value.bool false]).toArray) (places := [(0, 512), (512, 1)]) (by kernel_rfl) (by kernel_rfl) (.agg cs.toArray)
    obtain ⟨r, h1, h2⟩ := fill_first (p := (#[(0, 512), (512, 1)][·]?)) (n := 512) rfl (by omega) (List.replicate 512 (v8 0#8) ++ [Value.bool false]).toArray cs hcl (by rw [List.size_toArray, List.length_append, List.length_replicate]; simp)
    have hr : r = (cs ++ [Value.bool false]).toArray := by
      apply Array.ext'
      rw [h2, List.toList_toArray, List.drop_append_of_le_length (by rw [List.length_replicate]; exact Nat.le_refl _), List.drop_eq_nil_of_le (by rw [List.length_replicate]; exact Nat.le_refl _), List.nil_append]
    rw [e, h1, hr]
  have hbsl : ∀ V : World, (Instr.buildSlice 87 1 #[(0, .agg (cs ++ [Value.bool false]).toArray)]).run Tryz.prog V = .ok (.slice (some ⟨V.heap.size, 0, none⟩) 1 1) (V.alloc (.cells (cs ++ [Value.bool false]).toArray 126)) := fun V =>
    run_buildSlice_one (zs := List.replicate 512 (v8 0#8) ++ [Value.bool false]) (n := 513) undB (by have := infoB; cases hq : Tryz.prog.info? 126 with
      | none => rw [hq] at this; cases this
      | some i => rw [hq] at this; simp only [Option.map_some, Option.some.injEq, Prod.mk.injEq] at this; simp only [Option.map_some, this.1, this.2.1]) (by rw [List.length_append, List.length_replicate]; rfl) (by omega) (by omega) _ (by rw [List.length_append, hcl]; rfl) V
  have HW := Lib.hid hW
  have HWb := Lib.hid hWb
  have HCS := Lib.hid hcs
  have HCL := Lib.hid hcl
  have HSC := Lib.hid hsc
  have HV := Lib.hid hv
  have HI := Lib.hid hi
  have HR := Lib.hid hr
  have HWE := Lib.hid hWe
  have HBX := Lib.hid hbuild
  have HBS := Lib.hid hbsl
  clear hW hWb hcs hcl hsc hv hi hr hbx hbs hbW h hbuild hbsl
  go_enter Tryz.func52, Tryz.ntmps52
  go_wp2_with fail
  rw [← hWe]
  clear hWe
  refine wp_region_N [22] (Chg B Tb W) (by kernel_rfl) ?_
  have hH : Chg B Tb W W.drew := (Chg.refl B Tb W).drew
  refine wpAnyN_take (i := 0) (v := .pointer (some ⟨w.heap.size, 0, none⟩)) [1, 2, 3, 4, 22] (by kernel_rfl) rfl (by kernel_rfl) (by kernel_rfl) (by kernel_rfl) (fun _ _ _ h => h) (Or.inl ⟨by rfl, ?_⟩) hH ?_
  · intro V hV; go_simp
  try simp only [Act.put, List.setIfInBounds_toArray, List.set_cons_zero, List.set_cons_succ, List.getElem_toArray, List.getElem_cons_succ, List.getElem_cons_zero]
  refine wpAnyN_take (i := 1) (v := .pointer (some ⟨d, 0, none⟩)) [2, 3, 4, 22] (by kernel_rfl) rfl (by kernel_rfl) (by kernel_rfl) (by kernel_rfl) (fun _ _ _ h => h) (Or.inl ⟨by rfl, ?_⟩) hH ?_
  · intro V hV; obtain ⟨k0, k1, k2, k3⟩ := hbox V hV; go_simp
  try simp only [Act.put, List.setIfInBounds_toArray, List.set_cons_zero, List.set_cons_succ, List.getElem_toArray, List.getElem_cons_succ, List.getElem_cons_zero]
  refine wpAnyN_take (i := 2) (v := .pointer (some ⟨d, 0, none⟩)) [3, 4, 22] (by kernel_rfl) rfl (by kernel_rfl) (by kernel_rfl) (by kernel_rfl) (fun _ _ _ h => h) (Or.inl ⟨by rfl, ?_⟩) hH ?_
  · intro V hV; go_simp
  try simp only [Act.put, List.setIfInBounds_toArray, List.set_cons_zero, List.set_cons_succ, List.getElem_toArray, List.getElem_cons_succ, List.getElem_cons_zero]
  refine wpAnyN_take (i := 3) (v := .pointer (some ⟨d, 2, none⟩)) [4, 22] (by kernel_rfl) rfl (by kernel_rfl) (by kernel_rfl) (by kernel_rfl) (fun _ _ _ h => h) (Or.inl ⟨by rfl, ?_⟩) hH ?_
  · intro V hV; go_simp
  try simp only [Act.put, List.setIfInBounds_toArray, List.set_cons_zero, List.set_cons_succ, List.getElem_toArray, List.getElem_cons_succ, List.getElem_cons_zero]
  refine wpAnyN_take (i := 4) (v := .map (some b)) [22] (by kernel_rfl) rfl (by kernel_rfl) (by kernel_rfl) (by kernel_rfl) (fun _ _ _ h => h) (Or.inl ⟨by rfl, ?_⟩) hH ?_
  · intro V hV; have k := hdsk V hV; go_simp
  try simp only [Act.put, List.setIfInBounds_toArray, List.set_cons_zero, List.set_cons_succ, List.getElem_toArray, List.getElem_cons_succ, List.getElem_cons_zero]
  refine wpAnyN_take (i := 5) (v := .pointer (some ⟨w.heap.size, 1, none⟩)) [6, 22] (by kernel_rfl) rfl (by kernel_rfl) (by kernel_rfl) (by kernel_rfl) (fun _ _ _ h => h) (Or.inl ⟨by rfl, ?_⟩) hH ?_
  · intro V hV; go_simp
  try simp only [Act.put, List.setIfInBounds_toArray, List.set_cons_zero, List.set_cons_succ, List.getElem_toArray, List.getElem_cons_succ, List.getElem_cons_zero]
  refine wpAnyN_take (i := 6) (v := .int .i64 f) [22] (by kernel_rfl) rfl (by kernel_rfl) (by kernel_rfl) (by kernel_rfl) (fun _ _ _ h => h) (Or.inl ⟨by rfl, ?_⟩) hH ?_
  · intro V hV; obtain ⟨k0, k1, k2, k3⟩ := hbox V hV; go_simp
  try simp only [Act.put, List.setIfInBounds_toArray, List.set_cons_zero, List.set_cons_succ, List.getElem_toArray, List.getElem_cons_succ, List.getElem_cons_zero]
  refine wpAnyN_take (i := 7) (v := .pointer (some ⟨w.heap.size, 0, none⟩)) [8, 9, 10, 11, 14, 21, 22] (by kernel_rfl) rfl (by kernel_rfl) (by kernel_rfl) (by kernel_rfl) (fun _ _ _ h => h) (Or.inl ⟨by rfl, ?_⟩) hH ?_
  · intro V hV; go_simp
  try simp only [Act.put, List.setIfInBounds_toArray, List.set_cons_zero, List.set_cons_succ, List.getElem_toArray, List.getElem_cons_succ, List.getElem_cons_zero]
  refine wpAnyN_take (i := 8) (v := .pointer (some ⟨d, 0, none⟩)) [9, 10, 11, 14, 21, 22] (by kernel_rfl) rfl (by kernel_rfl) (by kernel_rfl) (by kernel_rfl) (fun _ _ _ h => h) (Or.inl ⟨by rfl, ?_⟩) hH ?_
  · intro V hV; obtain ⟨k0, k1, k2, k3⟩ := hbox V hV; go_simp
  try simp only [Act.put, List.setIfInBounds_toArray, List.set_cons_zero, List.set_cons_succ, List.getElem_toArray, List.getElem_cons_succ, List.getElem_cons_zero]
  refine wpAnyN_take (i := 9) (v := .pointer (some ⟨d, 0, none⟩)) [10, 11, 14, 21, 22] (by kernel_rfl) rfl (by kernel_rfl) (by kernel_rfl) (by kernel_rfl) (fun _ _ _ h => h) (Or.inl ⟨by rfl, ?_⟩) hH ?_
  · intro V hV; go_simp
  try simp only [Act.put, List.setIfInBounds_toArray, List.set_cons_zero, List.set_cons_succ, List.getElem_toArray, List.getElem_cons_succ, List.getElem_cons_zero]
  refine wpAnyN_take (i := 10) (v := .pointer (some ⟨d, 2, none⟩)) [11, 14, 21, 22] (by kernel_rfl) rfl (by kernel_rfl) (by kernel_rfl) (by kernel_rfl) (fun _ _ _ h => h) (Or.inl ⟨by rfl, ?_⟩) hH ?_
  · intro V hV; go_simp
  try simp only [Act.put, List.setIfInBounds_toArray, List.set_cons_zero, List.set_cons_succ, List.getElem_toArray, List.getElem_cons_succ, List.getElem_cons_zero]
  refine wpAnyN_take (i := 11) (v := .map (some b)) [14, 21, 22] (by kernel_rfl) rfl (by kernel_rfl) (by kernel_rfl) (by kernel_rfl) (fun _ _ _ h => h) (Or.inl ⟨by rfl, ?_⟩) hH ?_
  · intro V hV; have k := hdsk V hV; go_simp
  try simp only [Act.put, List.setIfInBounds_toArray, List.set_cons_zero, List.set_cons_succ, List.getElem_toArray, List.getElem_cons_succ, List.getElem_cons_zero]
  refine wpAnyN_take (i := 12) (v := .pointer (some ⟨w.heap.size, 1, none⟩)) [13, 14, 21, 22] (by kernel_rfl) rfl (by kernel_rfl) (by kernel_rfl) (by kernel_rfl) (fun _ _ _ h => h) (Or.inl ⟨by rfl, ?_⟩) hH ?_
  · intro V hV; go_simp
  try simp only [Act.put, List.setIfInBounds_toArray, List.set_cons_zero, List.set_cons_succ, List.getElem_toArray, List.getElem_cons_succ, List.getElem_cons_zero]
  refine wpAnyN_take (i := 13) (v := .int .i64 f) [14, 21, 22] (by kernel_rfl) rfl (by kernel_rfl) (by kernel_rfl) (by kernel_rfl) (fun _ _ _ h => h) (Or.inl ⟨by rfl, ?_⟩) hH ?_
  · intro V hV; obtain ⟨k0, k1, k2, k3⟩ := hbox V hV; go_simp
  try simp only [Act.put, List.setIfInBounds_toArray, List.set_cons_zero, List.set_cons_succ, List.getElem_toArray, List.getElem_cons_succ, List.getElem_cons_zero]
  refine wpAnyN_take (i := 14) (v := v) [21, 22] (by kernel_rfl) rfl (by kernel_rfl) (by kernel_rfl) (by kernel_rfl) (fun _ _ _ h => h) (Or.inl ⟨by rfl, ?_⟩) hH ?_
  · intro V hV; have k := hlkV V hV; go_simp
  try simp only [Act.put, List.setIfInBounds_toArray, List.set_cons_zero, List.set_cons_succ, List.getElem_toArray, List.getElem_cons_succ, List.getElem_cons_zero]
  refine wpAnyN_take (i := 15) (v := .pointer (some ⟨w.heap.size, 3, none⟩)) [16, 17, 18, 19, 20, 21, 22] (by kernel_rfl) rfl (by kernel_rfl) (by kernel_rfl) (by kernel_rfl) (fun _ _ _ h => h) (Or.inl ⟨by rfl, ?_⟩) hH ?_
  · intro V hV; go_simp
  try simp only [Act.put, List.setIfInBounds_toArray, List.set_cons_zero, List.set_cons_succ, List.getElem_toArray, List.getElem_cons_succ, List.getElem_cons_zero]
  refine wpAnyN_take (i := 16) (v := .slice (some ⟨ab, ao, none⟩) 512 c) [17, 18, 19, 20, 21, 22] (by kernel_rfl) rfl (by kernel_rfl) (by kernel_rfl) (by kernel_rfl) (fun _ _ _ h => h) (Or.inl ⟨by rfl, ?_⟩) hH ?_
  · intro V hV; obtain ⟨k0, k1, k2, k3⟩ := hbox V hV; go_simp
  try simp only [Act.put, List.setIfInBounds_toArray, List.set_cons_zero, List.set_cons_succ, List.getElem_toArray, List.getElem_cons_succ, List.getElem_cons_zero]
  refine wpAnyN_take (i := 17) (v := .pointer (some ⟨ab, ao, none⟩)) [18, 19, 20, 21, 22] (by kernel_rfl) rfl (by kernel_rfl) (by kernel_rfl) (by kernel_rfl) (fun _ _ _ h => h) (Or.inl ⟨by rfl, ?_⟩) hH ?_
  · intro V hV; have k := hs2a V; go_simp
  try simp only [Act.put, List.setIfInBounds_toArray, List.set_cons_zero, List.set_cons_succ, List.getElem_toArray, List.getElem_cons_succ, List.getElem_cons_zero]
  refine wpAnyN_take (i := 18) (v := .agg cs.toArray) [19, 20, 21, 22] (by kernel_rfl) rfl (by kernel_rfl) (by kernel_rfl) (by kernel_rfl) (fun _ _ _ h => h) (yieldsIf_load_mid (by rfl) _ _ rfl ab ao rfl cs (.array 512 5) (fun V hV => hrg V hV) arr512 rfl HSC.out) hH ?_
  try simp only [Act.put, List.setIfInBounds_toArray, List.set_cons_zero, List.set_cons_succ, List.getElem_toArray, List.getElem_cons_succ, List.getElem_cons_zero]
  refine wpAnyN_take (i := 19) (v := .agg (cs ++ [Value.bool false]).toArray) [20, 21, 22] (by kernel_rfl) rfl (by kernel_rfl) (by kernel_rfl) (by kernel_rfl) (fun _ _ _ h => h) (yieldsIf_build (by rfl) 126 0 (.tmp 20) rfl (.agg cs.toArray) rfl _ (fun V => HBX.out V)) hH ?_
  try simp only [Act.put, List.setIfInBounds_toArray, List.set_cons_zero, List.set_cons_succ, List.getElem_toArray, List.getElem_cons_succ, List.getElem_cons_zero]
  refine wpAnyN_one (i := 20) (by kernel_rfl) rfl (fun K hK => ?_)
  rw [if_pos (by rfl)]
  refine wp_buildSlice' 87 1 0 (.tmp 21) rfl (.agg (cs ++ [Value.bool false]).toArray) rfl _ (HBS.out W.drew) ?_
  refine hK.out _ _ (.inr (hH.alloc _)) ?_
  clear hK K
  try simp only [Act.put, List.setIfInBounds_toArray, List.set_cons_zero, List.set_cons_succ, List.getElem_toArray, List.getElem_cons_succ, List.getElem_cons_zero]
  refine wpAnyN_one (i := 21) (by kernel_rfl) rfl (fun K hK => ?_)
  rw [if_pos (by rfl)]
  obtain ⟨i0, hi0, hz0, hz1, hz2⟩ := info_parts infoB
  have hrow0 : Rw (W.drew.alloc (.cells (cs ++ [Value.bool false]).toArray 126)) B v (rows f m.l) := by
    rw [HV.out]; exact World.ownsRow.alloc (lookV_row HW.out.drew f) _
  have hnew : ∀ j u, (cs ++ [Value.bool false])[j]? = some u → (W.drew.alloc (.cells (cs ++ [Value.bool false]).toArray 126)).cell? ((⟨W.drew.heap.size, 0, none⟩ : Addr).add j) = some u := fun j u hu => by
    rw [Addr.add_lit, Nat.zero_add, (Cel.new W.drew 126 (cs ++ [Value.bool false])).cell j, hu]
  have hone : ∀ u ∈ cs ++ [Value.bool false], u.oneCell' = true := fun u hu => by
    rcases List.mem_append.1 hu with hu | hu
    · rw [HCS.out] at hu; obtain ⟨x, _, rfl⟩ := List.mem_map.1 hu; rfl
    · rw [List.mem_singleton.1 hu]; rfl
  refine wp_append_row' _ (.tmp 16) (.tmp 22) 87 rfl B 126 i0 _ 513 513 undB hi0 hz0 hz1 hz2 (by simp [Value.cells]) (by decide) v _ _ rfl hrow0 ⟨W.drew.heap.size, 0, none⟩ 1 1 (cs ++ [Value.bool false]) rfl (by rw [List.length_append, HCL.out]; rfl) hnew hone
    (by have := HR.out; unfold maxLen; omega) (by have := HR.out; omega) (by have := HWb.out.size; simp; omega) (by omega) ?_
  intro A' c' w2 hown2 hg2 hob2
  have hS2 : Chg B Tb W w2 := (hH.alloc _).grown hg2 fun g e => by
    rcases hrow0.cases with ⟨e0, _⟩ | ⟨g', cap, e0, hg', _, cur, hgc⟩
    · rw [e0] at e; cases e
    · rw [e0] at e; cases e; exact .inr ⟨hg', _, hgc, rfl⟩
  refine hK.out _ _ (.inr hS2) ?_
  clear hK K
  try simp only [Act.put, List.setIfInBounds_toArray, List.set_cons_zero, List.set_cons_succ, List.getElem_toArray, List.getElem_cons_succ, List.getElem_cons_zero]
  obtain ⟨w3, hr3, hm3, hg3⟩ := (HW.out.map.chg hS2 (fun _ _ h => h)).store (f := f) ⟨by omega, hf.2⟩ HW.out.inv.few A' ((rows f m.l).length + 1) c'
  refine wpAnyN_one (i := 22) (by kernel_rfl) rfl (fun K hK => ?_)
  go_simp
  refine hK.out _ _ (.inl (by decide)) ?_
  clear hK K
  refine wpAnyN_done (by kernel_rfl) ?_ _
  go_wp2_with fail
  go_end0
  have hD1 := HW.out.drew.alloc (.cells (cs ++ [Value.bool false]).toArray 126)
  have e1 : cs ++ [Value.bool false] = cellsOf [⟨bs, false⟩] := by rw [cellsOf_one, HCS.out]; rfl
  rw [e1, ← cellsOf_app] at hown2
  have hr2 : Rw w2 B (.slice A' ((rows f m.l).length + 1) c') (rows f m.l ++ [⟨bs, false⟩]) := by
    unfold Rw
    rw [List.length_append]
    exact hown2
  have hBW : B ≤ (W.drew.alloc (.cells (cs ++ [Value.bool false]).toArray 126)).heap.size := by have := HWb.out.size; simp; omega
  obtain ⟨q1, q2⟩ := hD1.added hBW f bs _ (by rw [← HV.out]; exact hg2) hr2 (by rw [← HV.out]; exact hob2) hg3 hm3 HI.out
  exact ⟨rfl, ⟨_, q1⟩, ((Chg.of_below HWb.out).drew.alloc _).trans q2⟩
end Go.Proofs.YtdaknfepcbooeaaGreat.Disk
