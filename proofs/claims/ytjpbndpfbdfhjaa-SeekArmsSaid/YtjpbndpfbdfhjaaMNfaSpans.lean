/-
  The program's copySpans (layer 9): each instruction's spans, in a row of its own.
-/
import Derived.Test.YtjpbndpfbdfhjaaMNfaExec
namespace Go.Proofs.Ytjpbndpfbdfhjaa.Nfa
open Go.RowKit Go.Proofs.Ytjpbndpfbdfhjaa.Ord
open Go.Proofs.Ytjpbndpfbdfhjaa.Reg (Sp sflat sflat_length Rop Spn rowSpan)
set_option linter.unusedVariables false
set_option linter.unusedSimpArgs false

theorem own_put {base e size n cap g : Nat} {w : World} {xs : List Value} (h : w.ownsRow base e size (.slice (some ⟨g, 0, none⟩) n cap) n xs) (o : Nat) (u : Value) : (w.setCell ⟨g, o, none⟩ u).ownsRow base e size (.slice (some ⟨g, 0, none⟩) n cap) n (xs.set o u) := by
  refine ⟨by rw [List.length_set]; exact h.1, .inr ?_⟩
  rcases h.2 with ⟨hv, _⟩ | ⟨g', cap', cur, hv, hb, hc, h1, h2, h3, h4⟩
  · cases hv
  · cases hv
    obtain ⟨cs, rfl⟩ : ∃ cs : List Value, cur = cs.toArray := ⟨cur.toList, by simp⟩
    have hs := Cel.set (show Cel w g e cs from hc) o u
    refine ⟨g, cap, _, rfl, hb, hs, h1, h2, by simpa using h3, ?_⟩
    rw [← h4]
    simp [List.take_set]
theorem iflat_set (us : List Iv) (i : Nat) (u : Iv) (A' : Option Addr) (c' : Nat) (h : us[i]? = some u) : (iflat us).set (i * 5 + 4) (.slice A' u.i.sp.length c') = iflat (us.set i ⟨u.i, A', c'⟩) := by
  induction us generalizing i with
  | nil => simp at h
  | cons v l ih =>
    have h5 : v.cells.length = 5 := rfl
    show (v.cells ++ iflat l).set _ _ = _
    cases i with
    | zero =>
      simp at h; subst h
      rw [List.set_append_left _ _ (by omega)]
      rfl
    | succ i =>
      rw [List.set_append_right _ _ (by omega), h5, show (i + 1) * 5 + 4 - 5 = i * 5 + 4 by omega, ih i (by simpa using h)]
      rfl
theorem iflat_at {us : List Iv} {i : Nat} {u : Iv} (h : us[i]? = some u) {k : Nat} (hk : k < 5) : (iflat us)[i * 5 + k]? = u.cells[k]? := Nfa.flat_at Iv.cells 5 (fun _ => rfl) us i k u h hk

theorem own_cel {base e size n c : Nat} {w : World} {A : Option Addr} {xs : List Value} (h : w.ownsRow base e size (.slice A n c) n xs) (hn : 0 < n) : ∃ g cs, A = some ⟨g, 0, none⟩ ∧ Cel w g e cs ∧ n ≤ c ∧ base ≤ g := by
  rcases h.2 with ⟨hv, _⟩ | ⟨g, cap, cur, hv, hb, hc, h1, _⟩
  · cases hv; omega
  · cases hv
    obtain ⟨cs, rfl⟩ : ∃ cs : List Value, cur = cs.toArray := ⟨cur.toList, by simp⟩
    exact ⟨g, cs, rfl, hc, h1, hb⟩
theorem cz_src {w : World} {A : Option Addr} {l : List Sp} (h : Cz w A (sflat l)) : Src w A l.length (sflat l) := fun hl => h (fun e => by have := congrArg List.length e; rw [sflat_length, List.length_nil] at this; omega)
/-- What copySpans does. -/
def CSays (w : World) (B n c : Nat) (A : Option Addr) (us : List Iv) (e : Ending) (w' : World) : Prop :=
  e = .returned (.tuple #[]) ∧ ∃ vs, vs.map (·.i) = us.map (·.i) ∧ w'.ownsRow B 39 5 (.slice A n c) n (iflat vs) ∧ (∀ u ∈ vs, Spn w' u.A u.i.sp) ∧ w.grownBy w' (Value.slice A n c).ownBlock
set_option maxRecDepth 100000 in
set_option maxHeartbeats 1000000 in
theorem copy_call (w0 w : World) (n c : Nat) (A : Option Addr) (us : List Iv) (hown : w.ownsRow w0.heap.size 39 5 (.slice A n c) n (iflat us)) (hl : us.length = n) (hn : n ≤ 1000) (hlow : Below w0.heap.size w0 w) (hsp : ∀ u ∈ us, Cz w0 u.A (sflat u.i.sp) ∧ u.i.sp.length ≤ 1000) :
    Calls Try.prog 38 #[.slice A n c] w (CSays w w0.heap.size n c A us) := by
  have HO := Lib.hid hown
  have HL := Lib.hid hl
  have HLOW := Lib.hid hlow
  have HSP := Lib.hid hsp
  clear hown hl hlow hsp
  go_enter Try.func38, Try.ntmps38
  go_wp2_with fail
  go_loopw [2, 5] (fun v2 v5 wr => ∃ (i : Nat) (vs : List Iv), i ≤ n ∧ v5 = .int .i64 (i : Int) ∧ vs.map (·.i) = us.map (·.i) ∧ vs.drop i = us.drop i ∧ wr.ownsRow w0.heap.size 39 5 (.slice A n c) n (iflat vs) ∧ (∀ u ∈ vs.take i, Spn wr u.A u.i.sp) ∧ w.grownBy wr (Value.slice A n c).ownBlock) (fun _ v5 _ => n - (intOf v5).toNat)
  case atStart => exact ⟨0, us, Nat.zero_le _, rfl, rfl, rfl, HO.out, by simp, World.grownBy.refl _ _⟩
  case round =>
    obtain ⟨i, vs, hi, rfl, hvs, hdr, hor, hsn, hgr⟩ := hrel
    obtain ⟨W0, rfl⟩ : ∃ W0, W0 = wr := ⟨_, rfl⟩
    have HVS := Lib.hid hvs
    have HDR := Lib.hid hdr
    have HOR := Lib.hid hor
    have HSN := Lib.hid hsn
    have HGR := Lib.hid hgr
    clear hvs hdr hor hsn hgr
    rcases Nat.lt_or_ge i n with hlt | hge
    · obtain ⟨u, hu⟩ : ∃ u, us[i]? = some u := ⟨_, List.getElem?_eq_getElem (by rw [HL.out]; exact hlt)⟩
      have hvu : vs[i]? = some u := by
        have e1 : (vs.drop i)[0]? = (us.drop i)[0]? := by rw [HDR.out]
        rw [List.getElem?_drop, List.getElem?_drop, Nat.add_zero, hu] at e1
        exact e1
      obtain ⟨hcz, hsl⟩ := HSP.out u (List.mem_of_getElem? hu)
      have hlow : Below w0.heap.size w0 W0 := HLOW.out.trans ⟨HGR.out.os, HGR.out.tape, HGR.out.output, HGR.out.size, fun k hk => HGR.out.block k (Nat.lt_of_lt_of_le hk HLOW.out.size) fun e => by have := own_ge HO.out k e.symm; omega⟩
      obtain ⟨g, cs, rfl, hcel, hnc, hgB⟩ := own_cel HOR.out (by omega)
      have hil : i * 5 + 4 < n * 5 := by omega
      have k4 : W0.cell? ⟨g, i * 5 + 4, none⟩ = some (.slice u.A u.i.sp.length u.c) := by
        rw [HOR.out.cellAt _ hil, iflat_at hvu (by decide)]; rfl
      have hwz : w0.heap.size ≤ W0.heap.size := hlow.size
      have HC := Lib.hid hcel
      have HVU := Lib.hid hvu
      have HCZ := Lib.hid (hcz.below hlow)
      clear hu hvu hcz hlow hcel
      go_wp2_with ((at_builtin; refine wpList_append_any _ rfl _ _ 37 rfl w0.heap.size 71 rowSpan (.slice none 0 0) 0 [] rfl (World.ownsRow_nil _ _ _ _) u.A u.i.sp.length u.c (sflat u.i.sp) rfl (sflat_length _) (cz_src HCZ.out) (Reg.sflat_one _) u.i.sp.length (sflat u.i.sp) (Nat.zero_add _) (List.nil_append _) (by unfold maxLen; omega) (by omega) hwz ?_; intro A8 c8 w8 ho8 hg8 _; have h8 := HC.out.grown hg8 (by simp [Value.ownBlock]); have f8 := h8.free (i * 5 + 4); have k8 := (h8.cell (i * 5 + 4)).trans ((HC.out.cell (i * 5 + 4)).symm.trans k4); have HO8 := Lib.hid ho8; have HG8 := Lib.hid hg8; have HC8 := Lib.hid h8; clear h8 ho8 hg8))
      have hog : W0.grownBy (w8.setCell ⟨g, i * 5 + 4, none⟩ (.slice A8 u.i.sp.length c8)) (some g) := ⟨HG8.out.os, HG8.out.tape, HG8.out.output, by simpa [World.setCell] using HG8.out.size, fun k hk hne => (Below.heap_setCell _ _ _ _ (fun e => hne (by rw [e]))).trans (HG8.out.block k hk (by simp [Value.ownBlock]))⟩
      have hrow8 : w8.ownsRow w0.heap.size 39 5 (.slice (some ⟨g, 0, none⟩) n c) n (iflat vs) := own_frm (l := []) HOR.out ((Frm.refl _ _).grown HG8.out (fun g e => by simp [Value.ownBlock] at e)) (by simp)
      have hrow9 := own_put hrow8 (i * 5 + 4) (.slice A8 u.i.sp.length c8)
      rw [iflat_set vs i u A8 c8 HVU.out] at hrow9
      have hil2 : i < vs.length := (List.getElem?_eq_some_iff.1 HVU.out).1
      refine ⟨⟨i + 1, vs.set i ⟨u.i, A8, c8⟩, by omega, by rw [show ((i + 1 : Nat) : Int) = (i : Int) + 1 by omega], ?_, ?_, hrow9, ?_, HGR.out.trans hog⟩, by simp [intOf]; omega⟩
      · rw [List.map_set, ← HVS.out]
        refine List.ext_getElem? fun j => ?_
        by_cases e : i = j
        · subst e
          rw [List.getElem?_set_self (by rw [List.length_map]; exact hil2), List.getElem?_map, HVU.out]; rfl
        · rw [List.getElem?_set_ne e]
      · rw [List.drop_set_of_lt (Nat.lt_succ_self i)]
        have e1 : (vs.drop i).drop 1 = (us.drop i).drop 1 := by rw [HDR.out]
        rwa [List.drop_drop, List.drop_drop] at e1
      · intro v hv
        rw [List.take_set, List.take_add_one, HVU.out] at hv
        have hlt9 : (vs.take i).length = i := by rw [List.length_take]; omega
        rw [List.set_append_right _ _ (by omega), hlt9, Nat.sub_self] at hv
        rcases List.mem_append.1 hv with hv | hv
        · exact Ry.set (Ry.grown (HSN.out v hv) HG8.out (by simp [Value.ownBlock])) (HC8.out.not_ty (by decide)) _
        · simp at hv
          subst hv
          exact Ry.set (Ry.of_own HO8.out (by decide)) (HC8.out.not_ty (by decide)) _
    · obtain rfl : i = n := by omega
      go_wp2_with fail
      go_end0
      exact ⟨rfl, vs, HVS.out, HOR.out, fun u hu => HSN.out u (by rw [List.take_of_length_le (by have := congrArg List.length HVS.out; simp only [List.length_map] at this; rw [this, HL.out]; exact Nat.le_refl _)]; exact hu), HGR.out⟩
end Go.Proofs.Ytjpbndpfbdfhjaa.Nfa
