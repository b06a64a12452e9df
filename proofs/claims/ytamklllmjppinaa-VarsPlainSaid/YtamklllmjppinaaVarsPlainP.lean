/-
  Layer 13, P13.3: what is filled has no byte 10, 13 or 21; a text without $ and without these stands for itself.
-/
import Derived.Test.YtamklllmjppinaaVarsFilled
namespace Go.Proofs.Ytamklllmjppinaa.Vars
set_option linter.unusedVariables false
set_option linter.unusedSimpArgs false

theorem filt_keep (l : List B) : ∀ c ∈ filt l, keep c = true := fun c hc => (List.mem_filter.1 hc).2
theorem fillR_keep (ns : List ByteArray) (vs : List (List B)) : ∀ (f : Nat) (l : List B), ∀ c ∈ fillR ns vs f l, keep c = true
  | 0, _, c, h => by cases h
  | f + 1, [], c, h => by cases h
  | f + 1, x :: l, c, h => by
    by_cases hx : x ≠ 36#8
    · rw [fillR_plain hx, List.mem_append] at h
      rcases h with h | h
      · exact filt_keep _ c h
      · exact fillR_keep ns vs f l c h
    · obtain rfl : x = 36#8 := by simpa using hx
      by_cases h0 : nameR l = 0
      · rw [fillR_two h0] at h
        rcases List.mem_cons.1 h with rfl | h
        · decide
        · exact fillR_keep ns vs f _ c h
      · rw [fillR_go h0, List.mem_append] at h
        rcases h with h | h
        · exact filt_keep _ c h
        · exact fillR_keep ns vs f _ c h
theorem keep_iff (c : B) : keep c = true ↔ c ≠ 10#8 ∧ c ≠ 13#8 ∧ c ≠ 21#8 := by
  unfold keep; simp; constructor
  · rintro ⟨⟨h1, h2⟩, h3⟩; exact ⟨h1, h2, h3⟩
  · rintro ⟨h1, h2, h3⟩; exact ⟨⟨h1, h2⟩, h3⟩
theorem fillR_same (ns : List ByteArray) (vs : List (List B)) : ∀ (f : Nat) (l : List B), l.length < f → (∀ c ∈ l, c ≠ 36#8 ∧ keep c = true) → fillR ns vs f l = l
  | 0, _, h, _ => absurd h (Nat.not_lt_zero _)
  | f + 1, [], _, _ => rfl
  | f + 1, x :: l, h, hk => by
    simp only [List.length_cons] at h
    obtain ⟨h1, h2⟩ := hk x (by simp)
    rw [fillR_plain h1, fillR_same ns vs f l (by omega) (fun c hc => hk c (by simp [hc]))]
    simp [filt, h2]
theorem names_same : ∀ (f p : Nat) (l : List B), (∀ c ∈ l, c ≠ 36#8) → namesR f p l = .ok []
  | 0, _, _, _ => rfl
  | f + 1, p, [], _ => rfl
  | f + 1, p, x :: l, h => by rw [namesR_plain (h x (by simp))]; exact names_same f _ l (fun c hc => h c (by simp [hc]))
/-- A text without $ and without bytes 10, 13 and 21. -/
theorem fill_same {s : List B} {ns : List ByteArray} {vs : List (List B)} (h : ∀ c ∈ s, c ≠ 36#8 ∧ keep c = true) : fill s ns vs = if 200 < s.length then .error 3 else .ok s := by
  rw [fill_ok (l := []) (names_same _ _ _ (fun c hc => (h c hc).1)), fillR_same ns vs _ s (by omega) h]
  simp
theorem fill_keep {s b : List B} {ns : List ByteArray} {vs : List (List B)} (h : fill s ns vs = .ok b) : b.length ≤ 200 ∧ ∀ c ∈ b, keep c = true := by
  unfold fill at h
  split at h
  · cases h
  · split at h
    · cases h
    · split at h
      · cases h
      · injection h with h
        subst h
        exact ⟨by omega, fillR_keep ns vs _ s⟩
end Go.Proofs.Ytamklllmjppinaa.Vars
