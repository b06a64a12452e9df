/-
  What davitlaw04.FragBack comes to: true.
-/
import Derived.Test.YtdaknfepcbooeaaGreatMFragC
namespace Go.Proofs.YtdaknfepcbooeaaGreat.Frag
open Go.RowKit
set_option linter.unusedVariables false
set_option linter.unusedSimpArgs false

theorem pcs_flags (f : Int) (bs : List (BitVec 8)) (hf : f = 0 ∨ f = 1) : ∀ y ∈ pcs f bs, 0 ≤ y.1 ∧ y.1 ≤ 3 := by
  induction h : bs.length using Nat.strongRecOn generalizing f bs with
  | ind n ih =>
    subst h
    rcases Nat.lt_or_ge 493 bs.length with hl | hl
    · rw [pcs_more hl]
      intro y hy
      rcases List.mem_cons.1 hy with rfl | hy
      · show 0 ≤ f ∧ f ≤ 3
        omega
      · exact ih (bs.drop 493).length (by rw [List.length_drop]; omega) 0 (bs.drop 493) (.inl rfl) rfl y hy
    · rw [pcs_last hl]
      intro y hy
      rw [List.mem_singleton.1 hy]
      show 0 ≤ f + 2 ∧ f + 2 ≤ 3
      omega
theorem parts_flags (ep : BitVec 32) : ∀ (sq : BitVec 32) (xs : List (Int × List (BitVec 8))), (∀ y ∈ xs, 0 ≤ y.1 ∧ y.1 ≤ 3) → ∀ p ∈ parts ep sq xs, fits p.flags
  | _, [], _, p, hp => by cases hp
  | sq, x :: xs, h, p, hp => by
    rw [parts] at hp
    rcases List.mem_cons.1 hp with rfl | hp
    · have := h x List.mem_cons_self
      exact ⟨this.1, by show x.1 < _; omega⟩
    · exact parts_flags ep _ xs (fun y hy => h y (List.mem_cons_of_mem _ hy)) p hp
theorem cut_fits (ep sq : BitVec 32) (bs : List (BitVec 8)) : ∀ p ∈ cut ep sq bs, fits p.flags := parts_flags ep sq _ (pcs_flags 1 bs (.inr rfl))

/-- A slice of records that came in. -/
structure Ri (w : World) (A : Option Addr) (n : Nat) (rs : List Rv) : Prop where
  len : rs.length = n
  at_ : ∀ i x, rs[i]? = some x → ∃ ad, A = some ad ∧ ad.block < w.heap.size ∧ w.cell? (ad.add i) = some (.slice x.A x.bs.length x.c) ∧ Bs w w.heap.size x.A x.bs.length x.bs ∧ x.bs.length ≤ x.c ∧ x.c ≤ maxLen
theorem Ri.rd {w : World} {A : Option Addr} {n : Nat} {rs : List Rv} (h : Ri w A n rs) : Rd w w.heap.size A n (rs.map (·.bs)) :=
  ⟨by rw [List.length_map, h.len], fun i b hi => by
    rw [List.getElem?_map] at hi
    obtain ⟨x, hx, rfl⟩ := Option.map_eq_some_iff.1 hi
    obtain ⟨ad, hA, hl, hc, hb, _⟩ := h.at_ i x hx
    exact ⟨ad, x.A, x.c, hA, hl, hc, hb⟩⟩

theorem Ri.of_rows {w : World} {a : Option Addr} {len cap : Nat} (h : (a = none ∧ len = 0 ∧ cap = 0) ∨
    ∃ x, a = some x ∧ len ≤ cap ∧ cap ≤ maxLen ∧ ∀ i, i < len → ∃ (a' : Option Addr) (l' c' : Nat) (zs : List Int), w.cell? (x.add i) = some (.slice a' l' c') ∧
      ((a' = none ∧ l' = 0 ∧ c' = 0 ∧ zs = []) ∨ ∃ x, a' = some x ∧ l' ≤ c' ∧ c' ≤ maxLen ∧ zs.length = c' ∧ (∀ i, i < zs.length → w.cell? (x.add i) = some (.int .u8 (zs.getD i 0))) ∧ ∀ n ∈ zs, (Lit.int .u8 n).wf = true)) :
    ∃ rs, Ri w a len rs ∧ len ≤ cap ∧ cap ≤ maxLen := by
  rcases h with ⟨rfl, rfl, rfl⟩ | ⟨x, rfl, hl, hm, he⟩
  · exact ⟨[], ⟨rfl, fun i x h => by simp at h⟩, Nat.le_refl _, Nat.zero_le _⟩
  · have hf : ∀ i, ∃ r : Rv, i < len → w.cell? (x.add i) = some (.slice r.A r.bs.length r.c) ∧ Bs w w.heap.size r.A r.bs.length r.bs ∧ r.bs.length ≤ r.c ∧ r.c ≤ maxLen := by
      intro i
      by_cases hi : i < len
      · obtain ⟨a', l', c', zs, hc, hr⟩ := he i hi
        obtain ⟨bs, hb, _⟩ := Bs.of_row hr
        have hcap := row_cap hr
        refine ⟨⟨bs, a', c'⟩, fun _ => ?_⟩
        dsimp only
        rw [hb.len]
        exact ⟨hc, hb, hcap.1, hcap.2⟩
      · exact ⟨⟨[], none, 0⟩, fun h => absurd h hi⟩
    obtain ⟨f, hf⟩ : ∃ f : Nat → Rv, ∀ i, i < len → w.cell? (x.add i) = some (.slice (f i).A (f i).bs.length (f i).c) ∧ Bs w w.heap.size (f i).A (f i).bs.length (f i).bs ∧ (f i).bs.length ≤ (f i).c ∧ (f i).c ≤ maxLen := ⟨fun i => Classical.choose (hf i), fun i => Classical.choose_spec (hf i)⟩
    refine ⟨(List.range len).map f, ⟨by simp, fun i r hr => ?_⟩, hl, hm⟩
    rw [List.getElem?_map] at hr
    obtain ⟨j, hj, rfl⟩ := Option.map_eq_some_iff.1 hr
    obtain ⟨hil, hji⟩ := List.getElem?_eq_some_iff.1 hj
    rw [List.getElem_range] at hji
    subst hji
    obtain ⟨h1, h2, h3, h4⟩ := hf i (by simpa using hil)
    have hb := cell_lt h1
    rw [add_block] at hb
    exact ⟨x, rfl, hb, h1, h2, h3, h4⟩

theorem wpList_append_row {P : Program} (w : World) {ops : Array Oper} {rest : List Oper} {o : Oper} {a : Act} {Q : Exit → Act → World → Prop} (hgd : o.guard = none) (s x : Operand) (t : TypeId)
    (ho : o.op = .call { callee := .builtin .append, args := #[s, x], argTypes := #[t, t] }) (base : Nat) (e : TypeId) (i : TypeInfo) (z : Value) (size bytes : Nat) (ht : P.underlying t = some (.slice e)) (hi : P.info? e = some i) (hz : i.zero = some z)
    (hsize : i.size = size) (hby : i.bytes = bytes) (hzs : z.cells.size = size) (hsz : 0 < size)
    (v : Value) (n : Nat) (us : List Value) (hs : a.eval s = v) (hown : w.ownsRow base e size v n us)
    (ad : Addr) (m c : Nat) (news : List Value) (hx : a.eval x = .slice (some ad) m c) (hl : news.length = m * size) (hnews : ∀ j u, news[j]? = some u → w.cell? (ad.add j) = some u) (h1 : ∀ u ∈ news, u.oneCell' = true)
    (h63 : n + m ≤ maxLen) (hbytes : (n + m) * bytes ≤ 140737488355328) (hbase : base ≤ w.heap.size) (hpos : 0 < n + m)
    (h : ∀ A' c' w', w'.ownsRow base e size (.slice A' (n + m) c') (n + m) (us ++ news) → w.grownBy w' v.ownBlock → wpList P ops Q rest (a.put o.dst (.slice A' (n + m) c')) w') : wpList P ops Q (o :: rest) a w :=
  wpList_plain hgd fun _ hK => wp_append_row w s x t ho base e i z size bytes ht hi hz hsize hby hzs hsz v n us hs hown ad m c news hx hl hnews h1 h63 hbytes hbase hpos fun A' c' w' h2 h3 => hK _ _ (h A' c' w' h2 h3)

theorem short_cuts {rs : List Rv} (h : ∀ x ∈ rs, x.bs.length ≤ 1500) : ∀ g ∈ (rs.map (·.bs)).map (cut 0#32 0#32), (g.flatMap (·.body)).length ≤ 100000 := by
  intro g hg
  obtain ⟨b, hb, rfl⟩ := List.mem_map.1 hg
  obtain ⟨x, hx, rfl⟩ := List.mem_map.1 hb
  rw [cut_body]
  have := h x hx
  omega

/-- While the law cuts: W0: the world with p's variable. -/
structure Bk (W0 : World) (rs : List Rv) (k : Nat) (v : Value) (wr : World) (xs : List Pv) : Prop where
  own : wr.ownsRow W0.heap.size 121 4 v xs.length (flat xs)
  pts : xs.map (·.p) = (rs.take k).flatMap (fun x => cut 0#32 0#32 x.bs)
  by_ : ∀ x ∈ xs, By wr x.A x.p.body.length x.p.body
  low : Below W0.heap.size W0 wr
  few : xs.length ≤ 4 * k
  shorts : ∀ x ∈ rs.take k, x.bs.length ≤ 1500

end Go.Proofs.YtdaknfepcbooeaaGreat.Frag
