/-
  What slices.Clone of bools, and the program's Fail, come to.
-/
import Derived.Test.YtbomgglmplecpaaMDiskCalls
namespace Go.Proofs.Ytbomgglmplecpaa.Disk
open Go.RowKit Go.Maps
set_option linter.unusedVariables false
set_option linter.unusedSimpArgs false

theorem infoBool : (Try.prog.info? 4).map (fun i => (i.zero, i.size, i.bytes)) = some (some (.bool false), 1, 1) := by kernel_rfl
theorem undBools : Try.prog.underlying 23 = some (.slice 4) := by kernel_rfl
theorem eql_nil_bools (w : World) (A : Option Addr) (n c : Nat) : (binOp .eql 23 (.slice A n c) (.slice none 0 0)).run Try.prog w = .ok (.bool A.isNone) w := Lib.run_eql_slice_nil w 23 4 A n c 0 0 undBools
theorem Bo.own {w : World} {base B n : Nat} {v : Value} {ks : List Bool} (h : w.ownsRow base 4 1 v n (ks.map Value.bool)) : Bo w B v ks := by
  have hl : ks.length = n := by have := h.1; simpa using this
  subst hl
  rcases h.2 with ⟨rfl, h0⟩ | ⟨g, cap, cur, rfl, hb, hg, hc, _, _, _⟩
  · exact ⟨none, 0, by rw [h0], by omega, fun h => by omega⟩
  · exact ⟨some ⟨g, 0, none⟩, cap, rfl, hc, fun _ => ⟨_, rfl, ⟨_, hg, .inr ⟨_, _, rfl⟩⟩, fun j k hj => World.ownsRow.cells h (g := g) rfl j (.bool k) (by rw [List.getElem?_map, hj]; rfl)⟩⟩

end Go.Proofs.Ytbomgglmplecpaa.Disk
