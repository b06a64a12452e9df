/-
  The document's lines (layer 13): the names of a text.
-/
import Derived.Test.YtamklllmjppinaaVarsRef
namespace Go.Proofs.Ytamklllmjppinaa.Vars
open Go.RowKit
open Go.Proofs.Ytamklllmjppinaa.Lex (letter digit within b_ne drop_at Owb lit_one rowB run_cutMid bs_cut add_pos')
set_option linter.unusedVariables false
set_option linter.unusedSimpArgs false

theorem infoStr : (Try.prog.info? 9).map (fun i => (i.zero, i.size, i.bytes)) = some (some (.string ByteArray.empty), 1, 16) := by kernel_rfl
theorem rowStr : ElemRow Try.prog 23 9 1 16 := ElemRow.mk' Try.underlying23 infoStr rfl (by decide)
/-- Names, as strings, in an own row. -/
def scell (n : List (BitVec 8)) : Value := .string (str n)
def Ons (w : World) (D : Nat) (A : Option Addr) (n c : Nat) (ns : List (List (BitVec 8))) : Prop := w.ownsRow D 9 1 (.slice A n c) n (ns.map scell)
theorem Ons.len {w : World} {D n c : Nat} {A : Option Addr} {ns : List (List (BitVec 8))} (h : Ons w D A n c ns) : ns.length = n := by have := h.1; simpa using this
theorem Ons.nil_ (w : World) (D : Nat) : Ons w D none 0 0 [] := World.ownsRow_nil _ _ _ _
theorem Ons.below {w w' : World} {D n c : Nat} {A : Option Addr} {ns : List (List (BitVec 8))} (h : Ons w D A n c ns) (hb : Below w.heap.size w w') : Ons w' D A n c ns := own_frm (l := []) h (Frm.of_below hb) (by simp)
theorem Ons.grew {w w' : World} {D n c : Nat} {A : Option Addr} {ns : List (List (BitVec 8))} (h : Ons w D A n c ns) (hg : w.grownBy w' (Value.slice A n c).ownBlock) (hB : D ≤ w.heap.size) : Below D w w' :=
  ⟨hg.os, hg.tape, hg.output, hg.size, fun k hk => hg.block k (by omega) fun e => by have := own_ge h k e.symm; omega⟩
/-- What Names returns. -/
def NmSays (w : World) (r : Except Nat (List (List (BitVec 8)))) (e : Ending) (w' : World) : Prop := Below w.heap.size w w' ∧ match r with
  | .error p => e = .returned (.tuple #[.slice none 0 0, .int .i64 (p : Int)])
  | .ok ns => ∃ A' n' c', e = .returned (.tuple #[.slice A' n' c', .int .i64 (-1)]) ∧ Ons w' w.heap.size A' n' c' ns
theorem drop_two {s : List (BitVec 8)} {q : Nat} {c d : BitVec 8} (h : s[q]? = some c) (h' : s[q + 1]? = some d) : s.drop q = c :: d :: s.drop (q + 2) := by rw [drop_at h, drop_at h']
set_option maxRecDepth 100000 in
set_option maxHeartbeats 2000000 in
theorem names_ (w : World) (B : Nat) (A : Option Addr) (n c : Nat) (s : List (BitVec 8)) (hs : Bs w B A n s) (hB : B ≤ w.heap.size) (hn : n ≤ 100000) (hcap : n ≤ c) :
    Calls Try.prog 8 #[.slice A n c] w (NmSays w (names s)) := by
  obtain ⟨T, hT⟩ : ∃ T, T = names s := ⟨_, rfl⟩
  rw [← hT]
  have HS := Lib.hid hs
  have hsl := hs.len
  have HSL := Lib.hid hsl
  have HK0 := Lib.hid (show ∀ f, n - 0 < f → T = nadd [] (namesR f 0 (s.drop 0)) from fun f hf => by rw [nadd_nil, hT, List.drop_zero]; exact namesR_fuel _ _ _ _ (by omega) (by omega))
  clear hs hsl hT
  go_enter Try.func8, Try.ntmps8
  go_wp2_with fail
  go_loopw [4, 5] (fun v4 v5 wr => ∃ (q m c4 : Nat) (A4 : Option Addr) (o : List (List (BitVec 8))), q ≤ n ∧ m ≤ q ∧ v5 = .int .i64 (q : Int) ∧ v4 = .slice A4 m c4 ∧ Ons wr w.heap.size A4 m c4 o ∧ Below w.heap.size w wr ∧ Hid (∀ f, n - q < f → T = nadd o (namesR f q (s.drop q)))) (fun _ v5 _ => n - (intOf v5).toNat)
  case atStart => exact ⟨0, 0, 0, none, [], Nat.zero_le _, Nat.le_refl _, rfl, rfl, Ons.nil_ _ _, Below.refl _ _, HK0⟩
  case round =>
    clear HK0
    obtain ⟨q, m, c4, A4, o, hq, hmq, rfl, rfl, ho, hb, HK⟩ := hrel
    obtain ⟨W0, rfl⟩ : ∃ W0, W0 = wr := ⟨_, rfl⟩
    have HO := Lib.hid ho
    have HBW := Lib.hid hb
    have hws := hb.size
    clear ho hb
    rcases Nat.lt_or_ge q n with hlt | hge
    · obtain ⟨x, hx⟩ : ∃ x, s[q]? = some x := ⟨_, List.getElem?_eq_getElem (by rw [HSL.out]; exact hlt)⟩
      have HSW := Lib.hid (HS.out.below (HBW.out.mono hB))
      obtain ⟨bd, rfl, _, b0⟩ := HSW.out.at_ hlt
      rw [List.getD_eq_getElem?_getD, hx] at b0
      change _ = some (v8 x) at b0
      have HX := Lib.hid hx
      clear hx
      by_cases h36 : x = 36#8
      · have con := name_ W0 B (some bd) n c s HSW.out hn (q + 1) (by omega)
        rw [show ((q + 1 : Nat) : Int) = (q : Int) + 1 by omega] at con
        have hlen : (s.drop (q + 1)).length = n - (q + 1) := by rw [List.length_drop, HSL.out]
        have hnl := nameR_le (s.drop (q + 1))
        rw [hlen] at hnl
        have HD := Lib.hid (show s.drop q = 36#8 :: s.drop (q + 1) by rw [← h36]; exact drop_at HX.out)
        obtain ⟨k, hk⟩ : ∃ k, k = nameR (s.drop (q + 1)) := ⟨_, rfl⟩
        have HKK := Lib.hid hk
        rw [← hk] at con hnl
        subst h36
        clear hk hlen
        by_cases hk0 : k = 0
        · subst hk0
          rcases Nat.lt_or_ge (q + 1) n with hlt2 | hge2
          · obtain ⟨y, hy⟩ : ∃ y, s[q + 1]? = some y := ⟨_, List.getElem?_eq_getElem (by rw [HSL.out]; exact hlt2)⟩
            obtain ⟨bd2, hbd, _, b1⟩ := HSW.out.at_ hlt2
            cases hbd
            rw [List.getD_eq_getElem?_getD, hy, add_pos' bd (q + 1) (by omega)] at b1
            change _ = some (v8 y) at b1
            have HY := Lib.hid hy
            clear hy
            by_cases hy36 : y = 36#8
            · have HN := Lib.hid (show ∀ f, n - (q + 2) < f → T = nadd o (namesR f (q + 2) (s.drop (q + 2))) from fun f hf => by
                have := HK.out (f + (n - q) + 1) (by omega)
                rw [HD.out, drop_at HY.out, hy36, namesR_two] at this
                rw [this]
                congr 1
                exact namesR_fuel _ _ _ _ (by rw [List.length_drop, HSL.out]; omega) (by rw [List.length_drop, HSL.out]; omega))
              subst hy36
              clear HK
              go_wp2_with fail
              refine con.mono ?_
              rintro e w' ⟨rfl, rfl⟩
              go_wp2_with fail
              exact ⟨⟨q + 2, m, c4, A4, o, by omega, by omega, by rw [show ((q + 2 : Nat) : Int) = (q : Int) + 2 by omega], rfl, HO.out, HBW.out, HN⟩, by simp [intOf]; omega⟩
            · have HN := Lib.hid (show T = .error q by
                have := HK.out (n - q + 1) (by omega)
                rw [HD.out, drop_at HY.out, namesR_bad (by rw [← drop_at HY.out]; exact HKK.out.symm) hy36] at this
                exact this)
              have e36 : ((y.toNat : Int) == 36) = false := b_ne (k := 36) (by decide) hy36
              clear HK hy36
              go_wp2_with fail
              refine con.mono ?_
              rintro e w' ⟨rfl, rfl⟩
              go_wp2_with fail
              go_ret2
              rw [HN.out]
              exact ⟨HBW.out, rfl⟩
          · have HN := Lib.hid (show T = .error q by
              have := HK.out (n - q + 1) (by omega)
              rw [HD.out, List.drop_eq_nil_of_le (by rw [HSL.out]; exact hge2), namesR_none rfl] at this
              exact this)
            clear HK
            go_wp2_with fail
            refine con.mono ?_
            rintro e w' ⟨rfl, rfl⟩
            go_wp2_with fail
            go_ret2
            rw [HN.out]
            exact ⟨HBW.out, rfl⟩
        · have ek0 : ((k : Int) == 0) = false := by simp; omega
          by_cases h20 : 20 < k
          · have HN := Lib.hid (show T = .error q by
              have := HK.out (n - q + 1) (by omega)
              rw [HD.out, namesR_long (by rw [← HKK.out]; exact hk0) (by rw [← HKK.out]; exact h20)] at this
              exact this)
            clear HK
            go_wp2_with fail
            refine con.mono ?_
            rintro e w' ⟨rfl, rfl⟩
            go_wp2_with fail
            go_ret2
            rw [HN.out]
            exact ⟨HBW.out, rfl⟩
          · obtain ⟨nm, hnm⟩ : ∃ nm, nm = (s.drop (q + 1)).take k := ⟨_, rfl⟩
            have HN := Lib.hid (show ∀ f, n - (q + 1 + k) < f → T = nadd (o ++ [nm]) (namesR f (q + 1 + k) (s.drop (q + 1 + k))) from fun f hf => by
              have := HK.out (f + (n - q) + 1) (by omega)
              rw [HD.out, namesR_go (by rw [← HKK.out]; exact hk0) (by rw [← HKK.out]; exact h20), ← HKK.out, nadd_nadd, List.drop_drop] at this
              rw [this, hnm]
              congr 1
              exact namesR_fuel _ _ _ _ (by rw [List.length_drop, HSL.out]; omega) (by rw [List.length_drop, HSL.out]; omega))
            obtain ⟨st, hst⟩ : ∃ st, st = str nm := ⟨_, rfl⟩
            obtain ⟨Bc, d, dc, hcut⟩ : ∃ (Bc : Option Addr) (d dc : Nat), (∀ V, (Instr.sliceAt 22 (.slice (some bd) n c) (some (.int .i64 ((q : Int) + 1))) (some (.int .i64 ((q : Int) + 1 + (k : Int)))) none).run Try.prog V = .ok (.slice Bc d dc) V) ∧ (∀ V : World, Bs V B (some bd) n s → (convert 22 9 (.slice Bc d dc)).run Try.prog V = .ok (.string st) V) :=
              ⟨_, _, _, fun V => by rw [show (q : Int) + 1 + (k : Int) = ((q + 1 + k : Nat) : Int) by omega, show (q : Int) + 1 = ((q + 1 : Nat) : Int) by omega]; exact run_cutMid (size := 1) V Try.underlying22 (by kernel_rfl) (some bd) n c (q + 1) (q + 1 + k) .i64 .i64 (by omega) (by omega), fun V hV => by
                have hb := bs_cut hV (show q + 1 ≤ q + 1 + k by omega) (by omega) hcap
                rw [List.drop_take, show q + 1 + k - (q + 1) = k by omega, ← hnm] at hb
                have := (Bs.bp hb).string (c - (q + 1)) (P := Try.prog) (src := 22) (dst := 9) Try.underlying22 Try.underlying5 Try.underlying9
                rw [show q + 1 + k - (q + 1) = k by omega, hst]
                exact this⟩
            have HCUT := Lib.hid hcut
            have hcv := hcut.2 W0 HSW.out
            have hbA : Below W0.heap.size W0 (W0.alloc (.cells #[.string st] 9)) := (Below.refl _ _).alloc (Nat.le_refl _) _
            have HOA := Lib.hid (HO.out.below hbA)
            have HBA := Lib.hid (HBW.out.trans (hbA.mono hws))
            have HSRC := Lib.hid (Ry.src (m := 1) (Ry.of_cel (Cel.new W0 9 [.string st])) (by simp))
            have h1c : ∀ u ∈ [Value.string st], u.oneCell' = true := by intro u hu; rw [List.mem_singleton.1 hu]; rfl
            have HSV := Lib.hid (show scell nm = .string st by rw [hst]; rfl)
            have hBA := HBA.out.size
            clear hcut hbA HK hnm HKK hst
            go_wp2_with fail
            refine con.mono ?_
            clear con
            rintro e w' ⟨rfl, rfl⟩
            go_wp2_with (first
              | (refine wpList_slice rfl 22 (.tmp 45) (some (.tmp 47)) (some (.tmp 51)) none rfl (.slice Bc d dc) ?_ ?_; exact HCUT.out.1 _)
              | (at_builtin; refine wpList_append_any _ rfl _ _ 23 rfl w.heap.size 9 rowStr (.slice A4 m c4) m (o.map scell) rfl HOA.out (some ⟨W0.heap.size, 0, none⟩) 1 1 [.string st] rfl rfl HSRC.out h1c (m + 1) _ rfl rfl (by unfold maxLen; omega) (by omega) hBA ?_; intro A8 c8 w8 ho8 hg8 _; have HB8 := Lib.hid (HBA.out.trans (HOA.out.grew hg8 hBA)); have HO8 := Lib.hid (show Ons w8 w.heap.size A8 (m + 1) c8 (o ++ [nm]) by unfold Ons; rw [List.map_append, List.map_cons, List.map_nil, HSV.out]; exact ho8); clear ho8 hg8))
            exact ⟨⟨q + 1 + k, m + 1, c8, A8, _, by omega, by omega, by rw [show ((q + 1 + k : Nat) : Int) = (q : Int) + 1 + (k : Int) by omega], rfl, HO8.out, HB8.out, HN⟩, by simp [intOf]; omega⟩
      · have HN := Lib.hid (show ∀ f, n - (q + 1) < f → T = nadd o (namesR f (q + 1) (s.drop (q + 1))) from fun f hf => by
          have := HK.out (f + (n - q) + 1) (by omega)
          rw [drop_at HX.out, namesR_plain h36] at this
          rw [this]
          congr 1
          exact namesR_fuel _ _ _ _ (by rw [List.length_drop, HSL.out]; omega) (by rw [List.length_drop, HSL.out]; omega))
        have e36 : ((x.toNat : Int) == 36) = false := b_ne (k := 36) (by decide) h36
        have n36 : ((x.toNat : Int) != 36) = true := by unfold bne; rw [e36]; rfl
        clear HK h36
        go_wp2_with fail
        exact ⟨⟨q + 1, m, c4, A4, o, by omega, by omega, by rw [show ((q + 1 : Nat) : Int) = (q : Int) + 1 by omega], rfl, HO.out, HBW.out, HN⟩, by simp [intOf]; omega⟩
    · obtain rfl : q = n := by omega
      have HN := Lib.hid (show T = .ok o by
        have := HK.out 1 (by omega)
        rw [List.drop_eq_nil_of_le (by rw [HSL.out]; exact Nat.le_refl _), namesR_nil] at this
        rw [this]; simp [nadd])
      clear HK
      go_wp2_with fail
      go_ret2
      rw [HN.out]
      exact ⟨HBW.out, A4, m, c4, rfl, HO.out⟩
end Go.Proofs.Ytamklllmjppinaa.Vars
