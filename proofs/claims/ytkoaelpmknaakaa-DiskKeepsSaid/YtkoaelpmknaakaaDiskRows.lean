/-
  What syncAll makes of a row of sectors; words for writing within a row.
-/
import Derived.Test.YtkoaelpmknaakaaDiskWords
import Derived.Laws.OwnMore
namespace Go.Proofs.Ytkoaelpmknaakaa.Disk
open Go.RowKit
set_option linter.unusedVariables false
set_option linter.unusedSimpArgs false

/-- The value of a row. -/
theorem Rw.form {w : World} {B : Nat} {v : Value} {xs : List Sc} (h : Rw w B v xs) : ∃ A c, v = .slice A xs.length c := by
  rcases h.2 with ⟨rfl, h0⟩ | ⟨g, cap, cur, rfl, _⟩
  · exact ⟨none, 0, by rw [h0]⟩
  · exact ⟨_, _, rfl⟩
/-- A row is nil, or lies in a block. -/
theorem Rw.cases {w : World} {B : Nat} {v : Value} {xs : List Sc} (h : Rw w B v xs) : (v = .slice none 0 0 ∧ xs = []) ∨ ∃ g cap, v = .slice (some ⟨g, 0, none⟩) xs.length cap ∧ B ≤ g ∧ g < w.heap.size ∧ (∃ cur, w.heap[g]? = some (.cells cur 68 (0, 0))) := by
  rcases h.2 with ⟨rfl, h0⟩ | ⟨g, cap, cur, rfl, hB, hg, _⟩
  · exact .inl ⟨rfl, List.length_eq_zero_iff.1 h0⟩
  · exact .inr ⟨g, cap, rfl, hB, (Array.getElem?_eq_some_iff.1 hg).1, cur, hg⟩
theorem Rw.flag {w : World} {B g cap : Nat} {xs : List Sc} (h : Rw w B (.slice (some ⟨g, 0, none⟩) xs.length cap) xs) (hF : Full xs) {i : Nat} {x : Sc} (hx : xs[i]? = some x) : w.cell? ⟨g, i * 513 + 512, none⟩ = some (.bool x.s) := by
  have h1 := cellsOf_at hF hx (k := 512) (by omega)
  have h2 : x.cells[512]? = some (.bool x.s) := by
    have hl := hF x (List.mem_of_getElem? hx)
    unfold Sc.cells
    rw [List.getElem?_append_right (by simp; omega)]
    simp [hl]
  rw [h2] at h1
  have := World.ownsRow.cells h (g := g) rfl _ _ h1
  rwa [Addr.add_lit, Nat.zero_add] at this
theorem Rw.syncAt {w : World} {B g cap : Nat} {xs : List Sc} (h : Rw w B (.slice (some ⟨g, 0, none⟩) xs.length cap) xs) (hF : Full xs) {i : Nat} {x : Sc} (hx : xs[i]? = some x) :
    Rw (w.setCell ⟨g, i * 513 + 512, none⟩ (.bool true)) B (.slice (some ⟨g, 0, none⟩) xs.length cap) (xs.set i x.syn) ∧ w.grownBy (w.setCell ⟨g, i * 513 + 512, none⟩ (.bool true)) (some g) := by
  obtain ⟨h1, h2⟩ := World.ownsRow.stored h (i * 513 + 512) (.bool true)
  refine ⟨?_, h2⟩
  rw [set_cells hF hx (by omega) _ x.syn (cells_syn (hF x (List.mem_of_getElem? hx)))] at h1
  unfold Rw
  rw [List.length_set]
  exact h1
theorem take_syn {xs : List Sc} {k : Nat} {x : Sc} (hx : xs[k]? = some x) : ((xs.take k).map Sc.syn ++ xs.drop k).set k x.syn = (xs.take (k + 1)).map Sc.syn ++ xs.drop (k + 1) := by
  obtain ⟨hk, rfl⟩ := List.getElem?_eq_some_iff.1 hx
  have hl : ((xs.take k).map Sc.syn).length = k := by rw [List.length_map, List.length_take]; omega
  rw [List.set_append_right _ _ (by omega), hl, Nat.sub_self, List.drop_eq_getElem_cons hk, List.take_succ_eq_append_getElem hk, List.set_cons_zero, List.map_append, List.append_assoc]
  rfl
theorem full_syn {xs : List Sc} (h : Full xs) : Full (xs.map Sc.syn) := by
  intro y hy
  obtain ⟨x, hx, rfl⟩ := List.mem_map.1 hy
  exact h x hx
theorem full_app {xs ys : List Sc} (h : Full xs) (h2 : Full ys) : Full (xs ++ ys) := by
  intro y hy
  rcases List.mem_append.1 hy with hy | hy
  · exact h y hy
  · exact h2 y hy
theorem full_take {xs : List Sc} (h : Full xs) (k : Nat) : Full (xs.take k) := fun y hy => h y (List.mem_of_mem_take hy)
theorem full_drop {xs : List Sc} (h : Full xs) (k : Nat) : Full (xs.drop k) := fun y hy => h y (List.mem_of_mem_drop hy)
theorem full_mid {xs : List Sc} (h : Full xs) (k : Nat) : Full ((xs.take k).map Sc.syn ++ xs.drop k) := full_app (full_syn (full_take h k)) (full_drop h k)

set_option maxRecDepth 100000 in
set_option maxHeartbeats 1000000 in
theorem syncAll_ok (w : World) (B : Nat) (v : Value) (xs : List Sc) (h : Rw w B v xs) (hF : Full xs) (hn : xs.length ≤ 1000) :
    Calls Try.prog 44 #[v] w fun e w' => e = .returned (.tuple #[]) ∧ Rw w' B v (xs.map Sc.syn) ∧ w.grownBy w' v.ownBlock := by
  rcases h.cases with ⟨rfl, rfl⟩ | ⟨g, cap, rfl, hB, hg, -⟩
  · clear hn hF
    go_enter Try.func44, Try.ntmps44
    go_wp2_with fail
    refine wp_loop_rounds 1 ?_
    rw [rounds_succ]
    go_wp2_with fail
    go_end0
    exact ⟨rfl, h, ⟨rfl, rfl, rfl, Nat.le_refl _, fun _ _ _ => rfl⟩⟩
  · have HF := Lib.hid hF
    have H := Lib.hid h
    clear h hF hB hg
    go_enter Try.func44, Try.ntmps44
    go_wp2_with fail
    go_loopw [5] (fun i wr => ∃ k : Nat, k ≤ xs.length ∧ i = .int .i64 k ∧ Rw wr B (.slice (some ⟨g, 0, none⟩) xs.length cap) ((xs.take k).map Sc.syn ++ xs.drop k) ∧ w.grownBy wr (some g)) (fun i wr => xs.length - (Go.RowKit.intOf i).toNat)
    case atStart => exact ⟨0, Nat.zero_le _, rfl, by simpa using H.out, ⟨rfl, rfl, rfl, Nat.le_refl _, fun _ _ _ => rfl⟩⟩
    case round =>
      obtain ⟨k, hk, rfl, hr, hg⟩ := hrel
      have HR := Lib.hid hr
      have HG := Lib.hid hg
      clear hr hg
      by_cases hlt : k < xs.length
      · obtain ⟨x, hx⟩ : ∃ x, xs[k]? = some x := ⟨_, List.getElem?_eq_getElem hlt⟩
        have hx2 : ((xs.take k).map Sc.syn ++ xs.drop k)[k]? = some x := by
          have hl : ((xs.take k).map Sc.syn).length = k := by rw [List.length_map, List.length_take]; omega
          rw [List.getElem?_append_right (by omega), hl, Nat.sub_self, List.getElem?_drop]
          exact hx
        have hlen : ((xs.take k).map Sc.syn ++ xs.drop k).length = xs.length := by simp; omega
        have hr := HR.out
        rw [← hlen] at hr
        have hc := hr.flag (full_mid HF.out k) hx2
        have hfz := World.ownsRow.frozenAt hr (k * 513 + 512)
        obtain ⟨h1, h2⟩ := hr.syncAt (full_mid HF.out k) hx2
        rw [hlen, take_syn hx] at h1
        have H1 := Lib.hid h1
        have H2 := Lib.hid h2
        clear hx hx2 hlen hr h1 h2
        go_wp2_with fail
        go_roundw
        case rel => exact ⟨k + 1, by omega, by go_num, H1.out, HG.out.andThen H2.out (fun j hj => .inr hj)⟩
        case measure => simp [Go.RowKit.intOf]; omega
      · obtain rfl : k = xs.length := by omega
        go_wp2_with fail
        go_end0
        refine ⟨rfl, ?_, HG.out⟩
        have := HR.out
        simpa using this
end Go.Proofs.Ytkoaelpmknaakaa.Disk
