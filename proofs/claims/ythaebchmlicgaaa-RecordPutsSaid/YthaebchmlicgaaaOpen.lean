/-
  What came in, whatever its type: numbers, bools, strings, slices of these, slices of structs of these.
-/
import Derived.WalkKit
import Derived.ProofKit
import Derived.OpenShut
import Derived.Deep.Slices
import Derived.Deep.Fields
import Derived.ChangeSame
import Derived.Test.YthaebchmlicgaaaRows
namespace Go.Proofs.Ythaebchmlicgaaa
open Go.ChangeShapes Go.WideShapes Go.RowKit Go.Deep
set_option linter.unusedVariables false

inductive Kd
  | int (k : IntKind)
  | bool
  | string
  | slice (e : Kd)
  | recs (fs : List Kd)
/-- The value reads as one of this kind. -/
inductive IsV (w : World) : Kd → Value → Prop
  | int {k : IntKind} {a : Int} (h : (Lit.int k a).wf = true) : IsV w (.int k) (.int k a)
  | bool (b : Bool) : IsV w .bool (.bool b)
  | string {s : ByteArray} (h : s.size ≤ maxLen) : IsV w .string (.string s)
  | nil {e : Kd} : IsV w (.slice e) (.slice none 0 0)
  | slice {e : Kd} {x : Addr} {l c : Nat} (U : Nat → Value) (hl : l ≤ c) (hc : c ≤ maxLen) (hcell : ∀ i, i < l → w.cell? (x.add i) = some (U i)) (hU : ∀ i, i < l → IsV w e (U i)) : IsV w (.slice e) (.slice (some x) l c)
  | rnil {fs : List Kd} : IsV w (.recs fs) (.slice none 0 0)
  | recs {fs : List Kd} {x : Addr} {l c : Nat} (U : Nat → Nat → Value) (hl : l ≤ c) (hc : c ≤ maxLen) (hcell : ∀ i j, i < l → j < fs.length → w.cell? (x.add (i * fs.length + j)) = some (U i j))
      (hU : ∀ i j k, i < l → fs[j]? = some k → IsV w k (U i j)) : IsV w (.recs fs) (.slice (some x) l c)

def kindOf (P : Program) : Nat → TypeId → Option Kd
  | 0, _ => none
  | n + 1, t => match P.underlying t with
    | some (.int k) => some (.int k)
    | some .bool => some .bool
    | some .string => some .string
    | some (.slice e) =>
      if P.cellsOf e = 1 then (kindOf P n e).map .slice
      else match P.underlying e with
        | some (.struct fs) => if oneCellFields P fs && (P.cellsOf e == fs.size) then (fs.toList.mapM fun f => kindOf P n f.type).map .recs else none
        | _ => none
    | _ => none

section
variable {H : Type} {enc : TypeId × Value → H} {P : Program} {w : World} {base : Nat} {spare : Nat → Bool} {held : Bool}
theorem mapM_at {α β : Type} {f : α → Option β} : ∀ {l : List α} {r : List β}, l.mapM f = some r → r.length = l.length ∧ ∀ (j : Nat) (b : β), r[j]? = some b → ∃ a, l[j]? = some a ∧ f a = some b
  | [], r, h => by simp at h; subst h; exact ⟨rfl, by simp⟩
  | a :: l, r, h => by
    simp only [List.mapM_cons, Option.bind_eq_bind, Option.pure_def] at h
    cases hf : f a with
    | none => rw [hf] at h; cases h
    | some b =>
      rw [hf] at h
      cases hl : l.mapM f with
      | none => rw [hl] at h; cases h
      | some r' =>
        rw [hl] at h
        simp at h
        subst h
        obtain ⟨h1, h2⟩ := mapM_at hl
        refine ⟨by simp [h1], fun j b' hj => ?_⟩
        cases j with
        | zero => simp at hj; subst hj; exact ⟨a, rfl, hf⟩
        | succ j => simpa using h2 j b' (by simpa using hj)

theorem open_kind : ∀ (n : Nat) {t : TypeId} {k : Kd} {fuel : Nat} {v : Value} {y : DataW H × List MemPlace}, kindOf P n t = some k → DataW.trod enc P w base spare held fuel t [v] = some y → IsV w k v := by
  intro n
  induction n with
  | zero => intro t k fuel v y h; cases h
  | succ n ih =>
    intro t k fuel v y h ht
    unfold kindOf at h
    cases hu : P.underlying t with
    | none => rw [hu] at h; cases h
    | some d =>
      rw [hu] at h
      cases d <;> try (cases h; done)
      case int q =>
        cases h
        obtain ⟨a, e, _, hw⟩ := DataW.trod_int hu ht
        obtain rfl : v = .int q a := by simpa using e
        exact .int hw
      case bool =>
        cases h
        obtain ⟨a, e, _⟩ := DataW.trod_bool hu ht
        obtain rfl : v = .bool a := by simpa using e
        exact .bool a
      case string =>
        cases h
        obtain ⟨a, e, _, hw⟩ := DataW.trod_string hu ht
        obtain rfl : v = .string a := by simpa using e
        exact .string hw
      case slice e =>
        simp only at h
        by_cases hc : P.cellsOf e = 1
        · rw [if_pos hc] at h
          cases hk : kindOf P n e with
          | none => rw [hk] at h; cases h
          | some k' =>
            rw [hk] at h
            cases h
            rcases open_slice1 hu hc ht with ⟨e0, _⟩ | ⟨a, len, cap, m, q, V, D, Pl, e0, _, hl, hm, hmm, _, hel⟩
            · obtain rfl : v = .slice none 0 0 := by simpa using e0
              exact .nil
            · obtain rfl : v = .slice (some a) len cap := by simpa using e0
              have hlm : ∀ i, i < len → i < m := fun i hi => by rw [hmm]; split <;> omega
              exact .slice V hl hm (fun i hi => (hel i (hlm i hi)).1) (fun i hi => ih hk (hel i (hlm i hi)).2)
        · rw [if_neg hc] at h
          cases hs : P.underlying e with
          | none => rw [hs] at h; cases h
          | some d =>
            rw [hs] at h
            cases d <;> try (cases h; done)
            case struct fs =>
              simp only at h
              split at h
              · rename_i hone
                rw [Bool.and_eq_true, beq_iff_eq] at hone
                cases hk : (fs.toList.mapM fun f => kindOf P n f.type) with
                | none => rw [hk] at h; cases h
                | some ks =>
                  rw [hk] at h
                  cases h
                  obtain ⟨hkl, hka⟩ := mapM_at hk
                  have hkl' : ks.length = fs.size := by rw [hkl]; simp
                  rcases open_slice hu ht with ⟨e0, _⟩ | ⟨a, len, cap, m, q, D, Pl, e0, _, hl, hm, hmm, _, hel⟩
                  · obtain rfl : v = .slice none 0 0 := by simpa using e0
                    exact .rnil
                  · obtain rfl : v = .slice (some a) len cap := by simpa using e0
                    have hlm : ∀ i, i < len → i < m := fun i hi => by rw [hmm]; split <;> omega
                    rw [hone.2] at hel
                    refine .recs (fun i j => (w.cell? (a.add (i * ks.length + j))).getD undef) hl hm (fun i j hi hj => ?_) (fun i j k hi hjk => ?_)
                    · obtain ⟨cs', hcs, _⟩ := hel i (hlm i hi)
                      obtain ⟨hcl, _, hat⟩ := World.cells?_some hcs
                      have := hat j (by omega)
                      rw [add_add, ← hkl'] at this
                      rw [this]
                      obtain ⟨u, hu⟩ : ∃ u, cs'[j]? = some u := ⟨_, List.getElem?_eq_getElem (by have := World.cells?_some hcs; omega)⟩
                      rw [hu]; rfl
                    · obtain ⟨cs', hcs, ht'⟩ := hel i (hlm i hi)
                      obtain ⟨ys, n', _, _, hlen, hyl, hf⟩ := DataW.trod_struct hs ht'
                      obtain ⟨_, _, hat⟩ := World.cells?_some hcs
                      obtain ⟨f, hfj, hkf⟩ := hka j k hjk
                      have hfj' : fs[j]? = some f := by simpa using hfj
                      have hjl : j < fs.size := (Array.getElem?_eq_some_iff.1 hfj').1
                      obtain ⟨ho, hkk⟩ := hone_of hone.1 j f hfj'
                      have hcell := hat j hjl
                      rw [add_add, ← hkl'] at hcell
                      have h1 := hf j f hfj'
                      rw [ho, hkk] at h1
                      have hlt : j < cs'.length := by omega
                      have hone' : (cs'.drop j).take 1 = [cs'[j]] := by
                        rw [List.drop_eq_getElem_cons hlt]; rfl
                      rw [hone'] at h1
                      obtain ⟨y', hy'⟩ : ∃ y', ys[j]? = some y' := ⟨_, List.getElem?_eq_getElem (by omega)⟩
                      rw [hy'] at h1
                      have hv : (w.cell? (a.add (i * ks.length + j))).getD undef = cs'[j] := by rw [hcell, List.getElem?_eq_getElem hlt]; rfl
                      rw [hv]
                      exact ih hkf h1
              · cases h
end
end Go.Proofs.Ythaebchmlicgaaa
