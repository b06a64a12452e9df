/-
  A planned failure's list, whatever is done.
  What a segment's calls leave as it was: the file, the plan; how much it grows by.
  A store by the document: what its calls come to, on a disk by the document.
  The disk's room stays, whatever is done.
  What a store's calls leave on the disk, step by step, and what is read of it when the power fails: the journal is never torn, and has all that was synced.
  A store's calls on a disk that may fail: the journal is as it was, or as it is then.
-/
import Derived.Test.YtdaknfepcbooeaaGreatMBase
import Derived.Test.YtdaknfepcbooeaaGreatMPure
section
namespace Go.Proofs.YtdaknfepcbooeaaGreat.Disk
open Go.RowKit
set_option linter.unusedVariables false
set_option linter.unusedSimpArgs false

/-- The list of a planned failure is not longer than any list. -/
def Ok (m : M) : Prop := ∀ k ks, m.plan = some (k, ks) → ks.length ≤ maxLen
theorem ok_lost (m : M) (ks : List Bool) : Ok (lost m ks) := fun k l e => by cases e
theorem ok_stepped {m : M} (h : Ok m) : Ok (stepped m) := by
  unfold stepped
  split
  · exact ok_lost _ _
  · rename_i n k e; intro a b e'; cases e'; exact h _ _ e
  · exact h
theorem ok_with {m : M} (h : Ok m) (fs : List Int) (l : List Cl) : Ok { m with files := fs, l := l } := h
theorem ok_append {m : M} (h : Ok m) (f : Int) (bs : List (BitVec 8)) : Ok (append m f bs).2 := by
  unfold append
  split
  · exact h
  split
  · exact h
  split
  · exact h
  split
  · exact ok_stepped h
  · exact ok_with (ok_stepped h) _ _
theorem ok_sync {m : M} (h : Ok m) (f : Int) : Ok (sync m f).2 := by
  unfold sync
  split
  · exact h
  split
  · exact ok_stepped h
  · exact ok_with (ok_stepped h) _ _
theorem ok_remove {m : M} (h : Ok m) (f : Int) : Ok (remove m f).2 := by
  unfold remove
  split
  · exact h
  split
  · exact ok_stepped h
  · exact ok_with (ok_stepped h) _ _
theorem ok_rename {m : M} (h : Ok m) (f t : Int) : Ok (rename m f t).2 := by
  unfold rename
  split
  · exact h
  split
  · exact h
  split
  · exact ok_stepped h
  split
  · exact ok_stepped h
  · exact ok_with (ok_stepped h) _ _
theorem ok_fail {m : M} (h : Ok m) (s : Int) {ks : List Bool} (hk : ks.length ≤ maxLen) : Ok (fail m s ks) := fun a b e => by
  unfold fail at e
  dsimp only at e
  split at e
  · cases e
  · cases e; exact hk
theorem ok_crash {m : M} (h : Ok m) (ks : List Bool) : Ok (crash m ks) := by
  unfold crash
  split
  · exact h
  · exact ok_lost _ _
theorem ok_up {m : M} (h : Ok m) : Ok (up m) := h
theorem there_cases {m : M} {f : Int} (h : there m f ≠ 0) : (m.off = true ∧ there m f = 8) ∨ (m.off = false ∧ f ∉ m.files ∧ there m f = 4) := by
  unfold there at *
  cases ho : m.off
  · rw [ho] at h
    by_cases hf : f ∈ m.files
    · simp [hf] at h
    · exact .inr ⟨rfl, hf, by simp [hf]⟩
  · exact .inl ⟨rfl, rfl⟩
end Go.Proofs.YtdaknfepcbooeaaGreat.Disk
end

section
namespace Go.Proofs.YtdaknfepcbooeaaGreat.Segm
open Go.Proofs.YtdaknfepcbooeaaGreat.Disk (M Ok append sync remove there)
set_option linter.unusedVariables false
set_option linter.unusedSimpArgs false

theorem wrs_keeps : ∀ (L : List (List (BitVec 8))) (m : M) (g : Gm), Ok m → Ok (wrs L m g).2.1 ∧ (wrs L m g).2.2.file = g.file ∧ (wrs L m g).2.2.size ≤ g.size + L.length
  | [], m, g, h => ⟨h, rfl, Nat.le_refl _⟩
  | b :: L, m, g, h => by
    by_cases h0 : (append m g.file b).1 = 0
    · rw [wrs_on h0]
      obtain ⟨h1, h2, h3⟩ := wrs_keeps L (append m g.file b).2 { g with size := g.size + 1 } (Disk.ok_append h _ _)
      refine ⟨h1, h2, ?_⟩
      rw [List.length_cons]
      dsimp only at h3
      omega
    · rw [wrs_bad h0]
      exact ⟨Disk.ok_append h _ _, rfl, Nat.le_add_right _ _⟩
theorem appendS_keeps (m : M) (g : Gm) (bs : List (BitVec 8)) (h : Ok m) : Ok (appendS m g bs).2.1 ∧ (appendS m g bs).2.2.file = g.file ∧ (appendS m g bs).2.2.size ≤ g.size + 100 := by
  unfold appendS
  split
  · exact ⟨h, rfl, Nat.le_add_right _ _⟩
  · split
    · exact ⟨h, rfl, Nat.le_add_right _ _⟩
    · next hl =>
      obtain ⟨h1, h2, h3⟩ := wrs_keeps (secsOf g bs) m g h
      refine ⟨h1, h2, Nat.le_trans h3 ?_⟩
      have h4 := Frag.cut_length_le g.ep (BitVec.ofNat 32 g.size) bs
      have h5 : (secsOf g bs).length = (Frag.cut g.ep (BitVec.ofNat 32 g.size) bs).length := List.length_map ..
      omega
theorem syncS_keeps (m : M) (g : Gm) (h : Ok m) : Ok (syncS m g).2.1 ∧ (syncS m g).2.2.file = g.file ∧ (syncS m g).2.2.size = g.size := by
  unfold syncS
  split
  · exact ⟨h, rfl, rfl⟩
  · split
    · exact ⟨h, rfl, rfl⟩
    · exact ⟨Disk.ok_sync h _, rfl, rfl⟩
theorem beginS_keeps (m : M) (f : Int) (h : Ok m) : Ok (beginS m f).2.2 := by
  unfold beginS
  split
  · exact h
  · split
    · exact h
    · split
      · split
        · exact Disk.ok_remove h _
        · exact Disk.ok_remove h _
      · exact h
end Go.Proofs.YtdaknfepcbooeaaGreat.Segm
end

section
namespace Go.Proofs.YtdaknfepcbooeaaGreat.Sto
open Go.Proofs.YtdaknfepcbooeaaGreat.Segm (Gm appendS syncS beginS leads wrs secsOf wrs_nil wrs_on wrs_bad append_err sync_err remove_err)
open Go.Proofs.YtdaknfepcbooeaaGreat.Frag (grp)
open Go.Proofs.YtdaknfepcbooeaaGreat.Disk (M Sc rows append sync remove rename there Ok Inv)
set_option linter.unusedVariables false
set_option linter.unusedSimpArgs false

/-- A store: its epoch, its segment, whether it is broken. -/
structure St where
  ep : BitVec 32
  g : Option Gm
  broken : Bool
def headP (ep : BitVec 32) : Sector.Pt := ⟨ep, 0#32, 3, []⟩
/-- The sector of file 0. -/
def headSec (ep : BitVec 32) : List (BitVec 8) := Sector.sec (headP ep)
theorem head_may (ep : BitVec 32) : (headP ep).may = true := rfl
theorem headSec_len (ep : BitVec 32) : (headSec ep).length = 512 := Sector.sec_length (head_may ep)
theorem get_head (ep : BitVec 32) : Sector.get (headSec ep) = some (headP ep) := Sector.get_sec _ (head_may ep)
/-- The file of an epoch. -/
def fileOf (ep : BitVec 32) : Int := if ep.toNat % 2 = 0 then 2 else 3
theorem fileOf_or (ep : BitVec 32) : fileOf ep = 2 ∨ fileOf ep = 3 := by
  unfold fileOf
  split
  · exact .inl rfl
  · exact .inr rfl
theorem fileOf_next (ep : BitVec 32) : fileOf (ep + 1#32) ≠ fileOf ep := by
  unfold fileOf
  have h : (ep + 1#32).toNat = (ep.toNat + 1) % 4294967296 := by simp [BitVec.toNat_add]
  have hl : ep.toNat < 4294967296 := ep.isLt
  rw [h]
  split <;> split <;> first | decide | (exfalso; omega)

/-- A step of beginning anew: the error, the disk, the new segment. -/
def stp (ep : BitVec 32) (b : List (BitVec 8)) : Nat → M → Option Gm → Int × M × Option Gm
  | 0, m, _ => ((beginS m (fileOf ep)).1, (beginS m (fileOf ep)).2.2, if (beginS m (fileOf ep)).2.1 then some ⟨fileOf ep, ep, 0, false⟩ else none)
  | 1, m, some g => ((appendS m g b).1, (appendS m g b).2.1, some (appendS m g b).2.2)
  | 2, m, some g => ((syncS m g).1, (syncS m g).2.1, some (syncS m g).2.2)
  | 3, m, g => (if (remove m 1).1 = 4 then 0 else (remove m 1).1, (remove m 1).2, g)
  | 4, m, g => ((append m 1 (headSec ep)).1, (append m 1 (headSec ep)).2, g)
  | 5, m, g => ((sync m 1).1, (sync m 1).2, g)
  | 6, m, g => ((rename m 1 0).1, (rename m 1 0).2, g)
  | _, m, g => (8, m, g)
/-- The steps from i on, n of them, up to the first error. -/
def run7 (ep : BitVec 32) (b : List (BitVec 8)) : Nat → Nat → M → Option Gm → Int × M × Option Gm
  | 0, _, m, g => (0, m, g)
  | n + 1, i, m, g => if (stp ep b i m g).1 = 0 then run7 ep b n (i + 1) (stp ep b i m g).2.1 (stp ep b i m g).2.2 else stp ep b i m g
def anew (m : M) (ep : BitVec 32) (b : List (BitVec 8)) : Int × M × Option Gm := run7 ep b 7 0 m none
theorem run7_goes {ep : BitVec 32} {b : List (BitVec 8)} {n i : Nat} {m : M} {g : Option Gm} (h : (stp ep b i m g).1 = 0) : run7 ep b (n + 1) i m g = run7 ep b n (i + 1) (stp ep b i m g).2.1 (stp ep b i m g).2.2 := if_pos h
theorem run7_stops {ep : BitVec 32} {b : List (BitVec 8)} {n i : Nat} {m : M} {g : Option Gm} (h : (stp ep b i m g).1 ≠ 0) : run7 ep b (n + 1) i m g = stp ep b i m g := if_neg h

def beginT (m : M) (s : St) (b : List (BitVec 8)) : Int × M × St :=
  if s.broken then (8, m, s) else if 9860 < b.length ∨ s.ep = 4294967295#32 then (3, m, s)
  else if (anew m (s.ep + 1#32) b).1 = 0 then (0, (anew m (s.ep + 1#32) b).2.1, ⟨s.ep + 1#32, (anew m (s.ep + 1#32) b).2.2, false⟩)
  else ((anew m (s.ep + 1#32) b).1, (anew m (s.ep + 1#32) b).2.1, ⟨s.ep, s.g, true⟩)
def appendT (m : M) (s : St) (b : List (BitVec 8)) : Int × M × St :=
  if s.broken then (8, m, s) else match s.g with
  | none => (4, m, s)
  | some g => if 9860 < b.length then (3, m, s) else ((appendS m g b).1, (appendS m g b).2.1, ⟨s.ep, some (appendS m g b).2.2, !decide ((appendS m g b).1 = 0)⟩)
def syncT (m : M) (s : St) : Int × M × St :=
  if s.broken then (8, m, s) else match s.g with
  | none => (4, m, s)
  | some g => ((syncS m g).1, (syncS m g).2.1, ⟨s.ep, some (syncS m g).2.2, !decide ((syncS m g).1 = 0)⟩)
def sizeT (s : St) : Nat := match s.g with
  | none => 0
  | some g => g.size
/-- The records that are read from sectors. -/
def recsOf (ep : BitVec 32) (L : List (List (BitVec 8))) : List (List (BitVec 8)) := (grp (leads ep 0 L)).map fun g => g.flatMap (·.body)
def rowsB (f : Int) (m : M) : List (List (BitVec 8)) := (rows f m.l).map Sc.b
/-- The epoch that a part tells. -/
def partEp (p : Sector.Pt) : BitVec 32 := if p.seq = 0#32 ∧ p.flags = 3 ∧ p.body = [] then p.epoch else 0#32
/-- The epoch that the sectors of file 0 tell; 0: it is torn. -/
def epOf (L : List (List (BitVec 8))) : BitVec 32 := match L with
  | [b] => match Sector.get b with
    | some p => partEp p
    | none => 0#32
  | _ => 0#32
/-- Open: the error, the epoch, the records. -/
def openT (m : M) : Int × BitVec 32 × List (List (BitVec 8)) :=
  if m.off then (8, 0#32, []) else if (0 : Int) ∉ m.files then (0, 0#32, []) else if epOf (rowsB 0 m) = 0#32 then (7, 0#32, [])
  else if recsOf (epOf (rowsB 0 m)) (rowsB (fileOf (epOf (rowsB 0 m))) m) = [] then (7, 0#32, []) else (0, epOf (rowsB 0 m), recsOf (epOf (rowsB 0 m)) (rowsB (fileOf (epOf (rowsB 0 m))) m))

theorem grp_few (l : List Frag.Pt) : (grp l).length ≤ l.length := by
  induction h : l.length using Nat.strongRecOn generalizing l with
  | ind n ih =>
    subst h
    rcases Nat.eq_zero_or_pos (Frag.lead true l) with h0 | h0
    · rw [Frag.grp_none h0]; exact Nat.zero_le _
    · rw [Frag.grp_more h0, List.length_cons]
      have hle := Frag.lead_le true l
      have := ih (l.drop (Frag.lead true l)).length (by rw [List.length_drop]; omega) (l.drop (Frag.lead true l)) rfl
      rw [List.length_drop] at this
      omega
theorem recs_few (ep : BitVec 32) (L : List (List (BitVec 8))) : (recsOf ep L).length ≤ L.length := by
  unfold recsOf
  rw [List.length_map]
  exact Nat.le_trans (grp_few _) (Segm.leads_le ep 0 L)
theorem open_few (m : M) (hr : ∀ f, (rows f m.l).length ≤ 200) : (openT m).2.2.length ≤ 200 := by
  unfold openT
  split
  · exact Nat.zero_le _
  · split
    · exact Nat.zero_le _
    · split
      · exact Nat.zero_le _
      · split
        · exact Nat.zero_le _
        · refine Nat.le_trans (recs_few _ _) ?_
          unfold rowsB
          rw [List.length_map]
          exact hr _

/-! What stays as it was -/
theorem wr1_ep (m : M) (g : Gm) (b : List (BitVec 8)) : (Segm.wr1 m g b).2.2.ep = g.ep := by
  unfold Segm.wr1; split <;> rfl
theorem wrs_ep : ∀ (L : List (List (BitVec 8))) (m : M) (g : Gm), (wrs L m g).2.2.ep = g.ep
  | [], m, g => rfl
  | b :: L, m, g => by
    by_cases h0 : (append m g.file b).1 = 0
    · rw [wrs_on h0]; exact wrs_ep L _ _
    · rw [wrs_bad h0]
theorem appendS_ep (m : M) (g : Gm) (b : List (BitVec 8)) : (appendS m g b).2.2.ep = g.ep := by
  unfold appendS
  split
  · rfl
  · split
    · rfl
    · exact wrs_ep _ _ _
theorem syncS_ep (m : M) (g : Gm) : (syncS m g).2.2.ep = g.ep := by
  unfold syncS
  split
  · rfl
  · split <;> rfl
/-- A segment as the store's calls leave it. -/
def Fit (ep : BitVec 32) (k : Nat) (g : Option Gm) : Prop := ∀ g', g = some g' → g'.file = fileOf ep ∧ g'.ep = ep ∧ g'.size ≤ 100 * k
theorem fit_none (ep : BitVec 32) (k : Nat) : Fit ep k none := fun _ h => by cases h
theorem fit_more {ep : BitVec 32} {k k' : Nat} {g : Option Gm} (h : Fit ep k g) (hk : k ≤ k') : Fit ep k' g := fun g' e => ⟨(h g' e).1, (h g' e).2.1, by have := (h g' e).2.2; omega⟩
theorem begin_some {m : M} {f : Int} (h : (beginS m f).1 = 0) : (beginS m f).2.1 = true := by
  unfold beginS at *
  split
  · next h1 => rw [if_pos h1] at h; exact absurd h (show ¬ (8 : Int) = 0 by decide)
  · next h1 =>
    rw [if_neg h1] at h
    split
    · next h2 => rw [if_pos h2] at h; exact absurd h (show ¬ (1 : Int) = 0 by decide)
    · next h2 =>
      rw [if_neg h2] at h
      split
      · next h3 =>
        rw [if_pos h3] at h
        split
        · rfl
        · next h4 => rw [if_neg h4] at h; exact absurd h h4
      · rfl
theorem begin_zero {m : M} {f : Int} (h : (beginS m f).2.1 = true) : (beginS m f).1 = 0 := by
  unfold beginS at *
  split
  · next h1 => rw [if_pos h1] at h; exact Bool.noConfusion h
  · next h1 =>
    rw [if_neg h1] at h
    split
    · next h2 => rw [if_pos h2] at h; exact Bool.noConfusion h
    · next h2 =>
      rw [if_neg h2] at h
      split
      · next h3 =>
        rw [if_pos h3] at h
        split
        · rfl
        · next h4 => rw [if_neg h4] at h; exact Bool.noConfusion h
      · rfl
/-- What holds of the disk's plan and the new segment, step by step. -/
def Mid (ep : BitVec 32) (i : Nat) (m : M) (g : Option Gm) : Prop := Ok m ∧ (i ≠ 0 → ∃ g', g = some g' ∧ g'.file = fileOf ep ∧ g'.ep = ep ∧ g'.size ≤ 100 ∧ (i = 1 → g'.size = 0))
theorem mid_step {ep : BitVec 32} {b : List (BitVec 8)} {i : Nat} (hi : i < 7) {m : M} {g : Option Gm} (h : Mid ep i m g) : Ok (stp ep b i m g).2.1 ∧ ((stp ep b i m g).1 = 0 → Mid ep (i + 1) (stp ep b i m g).2.1 (stp ep b i m g).2.2) := by
  obtain ⟨hok, hg⟩ := h
  match i, hi, g, hg with
  | 0, _, g, _ =>
    have h1 := Segm.beginS_keeps m (fileOf ep) hok
    refine ⟨h1, fun h0 => ⟨h1, fun _ => ⟨⟨fileOf ep, ep, 0, false⟩, ?_, rfl, rfl, Nat.zero_le _, fun _ => rfl⟩⟩⟩
    show (if (beginS m (fileOf ep)).2.1 then some _ else none) = _
    rw [begin_some h0]; rfl
  | 1, _, none, hg => obtain ⟨g', e, _⟩ := hg (by decide); cases e
  | 1, _, some g, hg =>
    obtain ⟨g', e, h1, h2, h3, h4⟩ := hg (by decide)
    cases e
    obtain ⟨k1, k2, k3⟩ := Segm.appendS_keeps m g b hok
    have h5 := h4 rfl
    exact ⟨k1, fun _ => ⟨k1, fun _ => ⟨_, rfl, k2.trans h1, (appendS_ep m g b).trans h2, by omega, fun h => by cases h⟩⟩⟩
  | 2, _, none, hg => obtain ⟨g', e, _⟩ := hg (by decide); cases e
  | 2, _, some g, hg =>
    obtain ⟨g', e, h1, h2, h3, h4⟩ := hg (by decide)
    cases e
    obtain ⟨k1, k2, k3⟩ := Segm.syncS_keeps m g hok
    exact ⟨k1, fun _ => ⟨k1, fun _ => ⟨_, rfl, k2.trans h1, (syncS_ep m g).trans h2, by rw [k3]; exact h3, fun h => by cases h⟩⟩⟩
  | 3, _, g, hg =>
    obtain ⟨g', e, h1, h2, h3, h4⟩ := hg (by decide)
    exact ⟨Disk.ok_remove hok _, fun _ => ⟨Disk.ok_remove hok _, fun _ => ⟨g', e, h1, h2, h3, fun h => by cases h⟩⟩⟩
  | 4, _, g, hg =>
    obtain ⟨g', e, h1, h2, h3, h4⟩ := hg (by decide)
    exact ⟨Disk.ok_append hok _ _, fun _ => ⟨Disk.ok_append hok _ _, fun _ => ⟨g', e, h1, h2, h3, fun h => by cases h⟩⟩⟩
  | 5, _, g, hg =>
    obtain ⟨g', e, h1, h2, h3, h4⟩ := hg (by decide)
    exact ⟨Disk.ok_sync hok _, fun _ => ⟨Disk.ok_sync hok _, fun _ => ⟨g', e, h1, h2, h3, fun h => by cases h⟩⟩⟩
  | 6, _, g, hg =>
    obtain ⟨g', e, h1, h2, h3, h4⟩ := hg (by decide)
    exact ⟨Disk.ok_rename hok _ _, fun _ => ⟨Disk.ok_rename hok _ _, fun _ => ⟨g', e, h1, h2, h3, fun h => by cases h⟩⟩⟩
theorem mid_run {ep : BitVec 32} {b : List (BitVec 8)} : ∀ (n i : Nat), n + i = 7 → ∀ (m : M) (g : Option Gm), Mid ep i m g → Ok (run7 ep b n i m g).2.1 ∧ ((run7 ep b n i m g).1 = 0 → Mid ep 7 (run7 ep b n i m g).2.1 (run7 ep b n i m g).2.2)
  | 0, i, hi, m, g, h => by
    obtain rfl : i = 7 := by omega
    exact ⟨h.1, fun _ => h⟩
  | n + 1, i, hi, m, g, h => by
    obtain ⟨h1, h2⟩ := mid_step (b := b) (show i < 7 by omega) h
    by_cases h0 : (stp ep b i m g).1 = 0
    · rw [run7_goes h0]
      exact mid_run n (i + 1) (by omega) _ _ (h2 h0)
    · rw [run7_stops h0]
      exact ⟨h1, fun h => absurd h h0⟩
theorem mid_start {ep : BitVec 32} {m : M} (h : Ok m) : Mid ep 0 m none := ⟨h, fun h => absurd rfl h⟩
/-- What a store is like, behind k calls. -/
def Fits (k : Nat) (s : St) : Prop := Fit s.ep k s.g
theorem begin_fits {m : M} {s : St} (b : List (BitVec 8)) {k : Nat} (hok : Ok m) (h : Fits k s) : Ok (beginT m s b).2.1 ∧ Fits (k + 1) (beginT m s b).2.2 := by
  unfold beginT
  split
  · exact ⟨hok, fit_more h (Nat.le_succ _)⟩
  · split
    · exact ⟨hok, fit_more h (Nat.le_succ _)⟩
    · obtain ⟨h1, h2⟩ := mid_run (ep := s.ep + 1#32) (b := b) 7 0 rfl m none (mid_start hok)
      split
      · next h0 =>
        refine ⟨h1, fun g' e => ?_⟩
        obtain ⟨g2, e2, h3, h4, h5, _⟩ := (h2 h0).2 (by decide)
        have e3 : some g2 = some g' := e2.symm.trans e
        cases e3
        exact ⟨h3, h4, by omega⟩
      · exact ⟨h1, fit_more h (Nat.le_succ _)⟩
theorem append_fits {m : M} {s : St} (b : List (BitVec 8)) {k : Nat} (hok : Ok m) (h : Fits k s) : Ok (appendT m s b).2.1 ∧ Fits (k + 1) (appendT m s b).2.2 := by
  unfold appendT
  split
  · exact ⟨hok, fit_more h (Nat.le_succ _)⟩
  · split
    · exact ⟨hok, fit_more h (Nat.le_succ _)⟩
    · next g hg =>
      split
      · exact ⟨hok, fit_more h (Nat.le_succ _)⟩
      · obtain ⟨k1, k2, k3⟩ := Segm.appendS_keeps m g b hok
        obtain ⟨h1, h2, h3⟩ := h g hg
        refine ⟨k1, fun g' e => ?_⟩
        cases e
        exact ⟨k2.trans h1, (appendS_ep m g b).trans h2, by omega⟩
theorem sync_fits {m : M} {s : St} {k : Nat} (hok : Ok m) (h : Fits k s) : Ok (syncT m s).2.1 ∧ Fits (k + 1) (syncT m s).2.2 := by
  unfold syncT
  split
  · exact ⟨hok, fit_more h (Nat.le_succ _)⟩
  · split
    · exact ⟨hok, fit_more h (Nat.le_succ _)⟩
    · next g hg =>
      obtain ⟨k1, k2, k3⟩ := Segm.syncS_keeps m g hok
      obtain ⟨h1, h2, h3⟩ := h g hg
      refine ⟨k1, fun g' e => ?_⟩
      cases e
      exact ⟨k2.trans h1, (syncS_ep m g).trans h2, by show (syncS m g).2.2.size ≤ _; rw [k3]; omega⟩
end Go.Proofs.YtdaknfepcbooeaaGreat.Sto
end

section
namespace Go.Proofs.YtdaknfepcbooeaaGreat.Sto
open Go.Proofs.YtdaknfepcbooeaaGreat.Segm (Gm appendS syncS beginS wrs wrs_on wrs_bad)
open Go.Proofs.YtdaknfepcbooeaaGreat.Disk (M Sc rows append sync remove rename there stepped lost crash fail up)
set_option linter.unusedVariables false
set_option linter.unusedSimpArgs false

theorem room_stepped (m : M) : (stepped m).room = m.room := by
  unfold stepped
  split <;> rfl
theorem room_append (m : M) (f : Int) (b : List (BitVec 8)) : (append m f b).2.room = m.room := by
  unfold append
  split
  · rfl
  split
  · rfl
  split
  · rfl
  split
  · exact room_stepped m
  · exact room_stepped m
theorem room_sync (m : M) (f : Int) : (sync m f).2.room = m.room := by
  unfold sync
  split
  · rfl
  split
  · exact room_stepped m
  · exact room_stepped m
theorem room_remove (m : M) (f : Int) : (remove m f).2.room = m.room := by
  unfold remove
  split
  · rfl
  split
  · exact room_stepped m
  · exact room_stepped m
theorem room_rename (m : M) (f t : Int) : (rename m f t).2.room = m.room := by
  unfold rename
  split
  · rfl
  split
  · rfl
  split
  · exact room_stepped m
  split
  · exact room_stepped m
  · exact room_stepped m
theorem room_crash (m : M) (ks : List Bool) : (crash m ks).room = m.room := by
  unfold crash
  split <;> rfl
theorem room_beginS (m : M) (f : Int) : (beginS m f).2.2.room = m.room := by
  unfold beginS
  split
  · rfl
  split
  · rfl
  split
  · split
    · exact room_remove m f
    · exact room_remove m f
  · rfl
theorem room_wrs : ∀ (L : List (List (BitVec 8))) (m : M) (g : Gm), (wrs L m g).2.1.room = m.room
  | [], m, g => rfl
  | b :: L, m, g => by
    by_cases h0 : (append m g.file b).1 = 0
    · rw [wrs_on h0, room_wrs L]; exact room_append m g.file b
    · rw [wrs_bad h0]; exact room_append m g.file b
theorem room_appendS (m : M) (g : Gm) (b : List (BitVec 8)) : (appendS m g b).2.1.room = m.room := by
  unfold appendS
  split
  · rfl
  split
  · rfl
  · exact room_wrs _ _ _
theorem room_syncS (m : M) (g : Gm) : (syncS m g).2.1.room = m.room := by
  unfold syncS
  split
  · rfl
  split
  · rfl
  · exact room_sync m g.file
theorem room_stp (ep : BitVec 32) (b : List (BitVec 8)) (i : Nat) (m : M) (g : Option Gm) : (stp ep b i m g).2.1.room = m.room := by
  match i, g with
  | 0, g => exact room_beginS m (fileOf ep)
  | 1, some g => exact room_appendS m g b
  | 1, none => rfl
  | 2, some g => exact room_syncS m g
  | 2, none => rfl
  | 3, g => exact room_remove m 1
  | 4, g => exact room_append m 1 (headSec ep)
  | 5, g => exact room_sync m 1
  | 6, g => exact room_rename m 1 0
  | i + 7, g => rfl
theorem room_run7 (ep : BitVec 32) (b : List (BitVec 8)) : ∀ (n i : Nat) (m : M) (g : Option Gm), (run7 ep b n i m g).2.1.room = m.room
  | 0, _, _, _ => rfl
  | n + 1, i, m, g => by
    by_cases h0 : (stp ep b i m g).1 = 0
    · rw [run7_goes h0, room_run7 ep b n]; exact room_stp ep b i m g
    · rw [run7_stops h0]; exact room_stp ep b i m g
theorem room_beginT (m : M) (s : St) (b : List (BitVec 8)) : (beginT m s b).2.1.room = m.room := by
  unfold beginT
  split
  · rfl
  split
  · rfl
  split
  · exact room_run7 _ _ 7 0 m none
  · exact room_run7 _ _ 7 0 m none
theorem room_appendT (m : M) (s : St) (b : List (BitVec 8)) : (appendT m s b).2.1.room = m.room := by
  unfold appendT
  split
  · rfl
  split
  · rfl
  · split
    · rfl
    · exact room_appendS _ _ _
theorem room_syncT (m : M) (s : St) : (syncT m s).2.1.room = m.room := by
  unfold syncT
  split
  · rfl
  split
  · rfl
  · exact room_syncS _ _
end Go.Proofs.YtdaknfepcbooeaaGreat.Sto
end

section
namespace Go.Proofs.YtdaknfepcbooeaaGreat.Sto
open Go.Proofs.YtdaknfepcbooeaaGreat.Segm (Gm appendS syncS beginS leads wrs secsOf wrs_nil wrs_on wrs_bad secsAll secsAll_len secsAll_snoc secP pieces ptsOf ks secs_512 read_back get_zeros rowZ_true rowZ_false)
open Go.Proofs.YtdaknfepcbooeaaGreat.Frag (grp pcs)
open Go.Proofs.YtdaknfepcbooeaaGreat.Disk (M Sc Cl rows append sync remove rename there Ok Inv fails stepped lost crash up add ins without syncL dropL moveL passes pstep pass rowZ uns zeros stepped_same)
set_option linter.unusedVariables false
set_option linter.unusedSimpArgs false

/-! What a failure leaves of a file. -/
theorem rows_passes (keep : List Bool) (l : List Cl) : ∀ (fs : List Int) (g : Int), fs.Nodup → g ∈ fs → ∃ n, rows g (passes keep fs l).2 = (rowZ keep n (rows g l)).map Sc.syn := by
  have key : ∀ (fs : List Int) (g : Int) (p : Nat × List Cl), fs.Nodup → g ∈ fs → ∃ n, rows g (fs.foldl (pstep keep) p).2 = (rowZ keep n (rows g p.2)).map Sc.syn := by
    intro fs
    induction fs with
    | nil => intro g p _ h; cases h
    | cons f fs ih =>
      intro g p hn hg
      obtain ⟨h1, h2⟩ := List.nodup_cons.1 hn
      rw [List.foldl_cons]
      rcases List.mem_cons.1 hg with rfl | hg
      · refine ⟨p.1, ?_⟩
        rw [Disk.foldl_rows_other keep fs g h1]
        exact Disk.rows_pass_same keep g p.1 p.2
      · have hne : g ≠ f := fun e => h1 (e ▸ hg)
        obtain ⟨n, h3⟩ := ih g (pstep keep p f) h2 hg
        refine ⟨n, h3.trans ?_⟩
        rw [show rows g (pstep keep p f).2 = rows g p.2 from Disk.rows_pass_other keep f g hne p.1 p.2]
  intro fs g hn hg
  exact key fs g (0, l) hn hg
theorem here_rows {m : M} (h : Inv m) (f : Int) : f ∈ m.files ↔ rows f m.l ≠ [] := by
  constructor
  · intro hf e
    have := h.pos hf
    rw [e] at this
    exact absurd this (by decide)
  · intro hr
    rcases Decidable.em (f ∈ m.files) with hf | hf
    · exact hf
    · exact absurd (h.none_ hf) hr
theorem rows_lost {m : M} (h : Inv m) (keep : List Bool) (f : Int) (us vs : List (List (BitVec 8))) (hr : rows f m.l = ks true us ++ ks false vs) :
    ∃ zs, rowsB f (up (lost m keep)) = us ++ zs ∧ zs.length = vs.length ∧ ∀ (j : Nat) (b : List (BitVec 8)), vs[j]? = some b → zs[j]? = some b ∨ zs[j]? = some zeros := by
  by_cases hf : f ∈ m.files
  · obtain ⟨n, hn⟩ := rows_passes keep m.l m.files f h.nodup hf
    obtain ⟨h1, h2⟩ := rowZ_true keep n us
    have e : rows f (up (lost m keep)).l = ks true us ++ (rowZ keep n (ks false vs)).map Sc.syn := by
      show rows f (passes keep m.files m.l).2 = _
      rw [hn, hr, Disk.rowZ_app, h1, h2, List.map_append, Nat.add_zero]
      congr 1
      unfold ks
      rw [List.map_map]
      rfl
    refine ⟨((rowZ keep n (ks false vs)).map Sc.syn).map Sc.b, ?_, ?_, fun j b hj => ?_⟩
    · unfold rowsB
      rw [e, List.map_append]
      congr 1
      unfold ks
      rw [List.map_map]
      exact List.map_id _
    · rw [List.length_map, List.length_map, Disk.rowZ_len, ks, List.length_map]
    · rw [List.getElem?_map, List.getElem?_map, rowZ_false keep vs n j b hj]
      simp only [Option.map_some, Sc.syn]
      split
      · exact .inl rfl
      · exact .inr rfl
  · have h0 := h.none_ hf
    rw [h0] at hr
    have hu : us = [] := by cases us with
      | nil => rfl
      | cons a us => cases hr
    have hv : vs = [] := by cases vs with
      | nil => rfl
      | cons a vs => rw [hu] at hr; cases hr
    subst hu hv
    refine ⟨[], ?_, rfl, fun j b hj => by simp at hj⟩
    have hnl : f ∉ (lost m keep).files := hf
    unfold rowsB
    rw [show rows f (up (lost m keep)).l = [] from (h.lost keep).none_ hnl]
    rfl

/-! What is read of the journal then. -/
/-- The journal's epoch is ep; of the records rs, the first n are synced; of the sectors of the others, some are there. -/
structure Jr (m : M) (ep : BitVec 32) (rs : List (List (BitVec 8))) (n : Nat) : Prop where
  le : n ≤ rs.length
  zero : ep = 0#32 → rows 0 m.l = [] ∧ n = 0
  head : ep ≠ 0#32 → rows 0 m.l = [⟨headSec ep, true⟩] ∧ 0 < n
  body : ep ≠ 0#32 → ∃ us vs, rows (fileOf ep) m.l = ks true us ++ ks false vs ∧ (us ++ vs) <+: secsAll ep rs ∧ us = secsAll ep (rs.take n)
theorem Jr.same {m m' : M} {ep : BitVec 32} {rs : List (List (BitVec 8))} {n : Nat} (h : Jr m ep rs n) (h0 : rows 0 m'.l = rows 0 m.l) (h1 : ep ≠ 0#32 → rows (fileOf ep) m'.l = rows (fileOf ep) m.l) : Jr m' ep rs n :=
  ⟨h.le, fun e => by rw [h0]; exact h.zero e, fun e => by rw [h0]; exact h.head e, fun e => by rw [h1 e]; exact h.body e⟩
theorem leads_more' (ep : BitVec 32) (k : Nat) (b : List (BitVec 8)) (L : List (List (BitVec 8))) : leads ep k (b :: L) = match Sector.get b with
    | none => []
    | some p => if p.epoch = ep ∧ p.seq = BitVec.ofNat 32 k then Segm.toF p :: leads ep (k + 1) L else [] := rfl
/-- Zeros behind the sectors change nothing. -/
theorem leads_pad (ep : BitVec 32) : ∀ (L : List (List (BitVec 8))) (k n : Nat), leads ep k (L ++ List.replicate n zeros) = leads ep k L
  | [], k, 0 => rfl
  | [], k, n + 1 => by
    rw [List.nil_append, List.replicate_succ, leads_more', get_zeros]
    rfl
  | b :: L, k, n => by
    rw [List.cons_append, leads_more', leads_more', leads_pad ep L (k + 1) n]
theorem fileOf_ne (ep : BitVec 32) : fileOf ep ≠ 0 ∧ fileOf ep ≠ 1 := by
  rcases fileOf_or ep with h | h <;> rw [h] <;> decide
theorem epOf_one {b : List (BitVec 8)} {p : Sector.Pt} (h : Sector.get b = some p) : epOf [b] = partEp p := by
  unfold epOf
  dsimp only
  rw [h]
theorem Jr.read {m : M} {ep : BitVec 32} {rs : List (List (BitVec 8))} {n : Nat} (h : Jr m ep rs n) (hi : Inv m) (keep : List Bool) :
    ∃ r, n ≤ r ∧ r ≤ rs.length ∧ openT (up (lost m keep)) = (0, ep, rs.take r) := by
  have hoff : (up (lost m keep)).off = false := rfl
  have hfiles : (up (lost m keep)).files = m.files := rfl
  by_cases he : ep = 0#32
  · obtain ⟨h0, hn⟩ := h.zero he
    refine ⟨0, by omega, Nat.zero_le _, ?_⟩
    have hnf : (0 : Int) ∉ m.files := fun hf => (here_rows hi 0).1 hf h0
    unfold openT
    rw [hoff, hfiles, if_neg (by decide), if_pos hnf, he]
    rfl
  · obtain ⟨h0, hn⟩ := h.head he
    obtain ⟨us, vs, hb, hpre, hus⟩ := h.body he
    have hf : (0 : Int) ∈ m.files := (here_rows hi 0).2 (by rw [h0]; exact fun e => by cases e)
    obtain ⟨z0, hz0, hz1, _⟩ := rows_lost hi keep 0 [headSec ep] [] (by rw [h0]; rfl)
    obtain rfl : z0 = [] := List.eq_nil_of_length_eq_zero hz1
    rw [List.append_nil] at hz0
    have hep : epOf (rowsB 0 (up (lost m keep))) = ep := by
      rw [hz0]
      rw [epOf_one (get_head ep)]
      exact if_pos ⟨rfl, rfl, rfl⟩
    obtain ⟨zs, hz, hzl, hzs⟩ := rows_lost hi keep (fileOf ep) us vs hb
    obtain ⟨tl, htl⟩ := hpre
    have hlen : us.length + vs.length ≤ (secsAll ep rs).length := by rw [← htl, List.length_append, List.length_append]; omega
    obtain ⟨r, hr1, hr2, hr3⟩ := read_back ep rs n h.le ((us ++ zs) ++ List.replicate ((secsAll ep rs).length - (us.length + vs.length)) zeros) (by
        rw [List.length_append, List.length_append, List.length_replicate, hzl]
        have : (secsAll ep rs).length = (ptsOf ep rs).length := List.length_map ..
        omega) (by
      intro i p hp
      have hip : (secsAll ep rs)[i]? = some (secP p) := by rw [secsAll, List.getElem?_map, hp]; rfl
      have hil : i < (secsAll ep rs).length := (List.getElem?_eq_some_iff.1 hip).1
      have hul : us.length = (pieces (rs.take n)).length := by rw [hus, secsAll_len]
      by_cases h1 : i < us.length
      · left
        rw [List.append_assoc, List.getElem?_append_left h1]
        rw [← htl, List.append_assoc, List.getElem?_append_left h1] at hip
        exact hip
      · by_cases h2 : i < us.length + vs.length
        · rw [List.getElem?_append_left (by rw [List.length_append, hzl]; exact h2), List.getElem?_append_right (by omega)]
          rw [← htl, List.getElem?_append_left (by rw [List.length_append]; exact h2), List.getElem?_append_right (by omega)] at hip
          rcases hzs _ _ hip with h3 | h3
          · exact .inl h3
          · exact .inr ⟨by omega, h3⟩
        · right
          refine ⟨by omega, ?_⟩
          rw [List.getElem?_append_right (by rw [List.length_append, hzl]; omega), List.getElem?_replicate, if_pos (by rw [List.length_append, hzl]; omega)])
    rw [leads_pad] at hr3
    have hrec : recsOf ep (rowsB (fileOf ep) (up (lost m keep))) = rs.take r := by rw [hz]; exact hr3
    refine ⟨r, hr1, hr2, ?_⟩
    unfold openT
    rw [hoff, hfiles, if_neg (by decide), if_neg (by simpa using hf), hep, if_neg he, hrec, if_neg]
    intro e
    have := congrArg List.length e
    rw [List.length_take, List.length_nil] at this
    omega

/-! The disk's calls, on a disk that may fail with the list. -/
structure On (p : Bool) (R : Nat) (keep : List Bool) (N : Nat) (m : M) : Prop where
  off : m.off = false
  inv : Inv m
  plan : ∀ k ks, m.plan = some (k, ks) → ks = keep
  few : m.l.length ≤ N
  room : m.room = R
  calm : p = true → m.plan = none
theorem On.fails {p : Bool} {R : Nat} {keep : List Bool} {N : Nat} {m : M} (h : On p R keep N m) (hf : fails m = true) : p = false ∧ stepped m = lost m keep := by
  have h2 := h.plan
  have hp0 : p = false := by
    cases hp : p
    · rfl
    · exfalso
      unfold Disk.fails at hf
      rw [h.calm hp] at hf
      cases hf
  refine ⟨hp0, ?_⟩
  unfold Disk.fails at hf
  unfold stepped
  split
  · next k e => rw [h2 _ _ e]
  · next n k e => rw [e] at hf; cases hf
  · next e => rw [e] at hf; cases hf
theorem stepped_plan {keep : List Bool} {m : M} (h : ∀ k ks, m.plan = some (k, ks) → ks = keep) : ∀ k ks, (stepped m).plan = some (k, ks) → ks = keep := by
  intro k ks e
  unfold stepped at e
  split at e
  · cases e
  · next n k' e' => cases e; exact h _ _ e'
  · exact h _ _ e
theorem stepped_calm {m : M} (h : m.plan = none) : (stepped m).plan = none := by
  unfold stepped
  rw [h]
  exact h
theorem On.more {p : Bool} {R : Nat} {keep : List Bool} {N N' : Nat} {m : M} (h : On p R keep N m) (hn : N ≤ N') : On p R keep N' m := ⟨h.off, h.inv, h.plan, Nat.le_trans h.few hn, h.room, h.calm⟩
theorem append_on {p : Bool} {R : Nat} {keep : List Bool} {N : Nat} {m : M} (h : On p R keep N m) (f : Int) (b : List (BitVec 8)) (hf : 0 ≤ f ∧ f < 9223372036854775808) (hb : b.length = 512) (hN : N < 200) (hR : N < R) :
    (p = false ∧ append m f b = (8, lost m keep)) ∨ ∃ m2, append m f b = (0, m2) ∧ On p R keep (N + 1) m2 ∧ rows f m2.l = rows f m.l ++ [⟨b, false⟩] ∧ ∀ g, g ≠ f → rows g m2.l = rows g m.l := by
  have h1 : ¬ (f < 0 ∨ b.length ≠ 512) := by omega
  have hr := Disk.rows_len f m.l
  have hfew := h.few
  have hroom := h.room
  have h2 : ¬ (m.room ≤ m.l.length ∨ 200 ≤ (rows f m.l).length) := by omega
  have hinv := h.inv.append f hf.2 b
  unfold append at hinv ⊢
  rw [h.off, if_neg (by decide), if_neg h1, if_neg h2] at hinv ⊢
  cases h4 : fails m
  · right
    rw [h4, if_neg (by decide)] at hinv
    obtain ⟨e1, e2, e3, e4⟩ := stepped_same h4
    refine ⟨_, if_neg (by decide), ⟨e4.trans h.off, hinv, stepped_plan h.plan, ?_, e3.trans hroom, fun hp => stepped_calm (h.calm hp)⟩, ?_, fun g hg => ?_⟩
    · show (m.l ++ [(⟨f, b, false⟩ : Cl)]).length ≤ N + 1
      rw [List.length_append]
      exact Nat.add_le_add_right hfew 1
    · show rows f (m.l ++ [(⟨f, b, false⟩ : Cl)]) = _
      rw [Disk.rows_app, Disk.rows_cons, if_pos rfl]
      rfl
    · show rows g (m.l ++ [(⟨f, b, false⟩ : Cl)]) = _
      rw [Disk.rows_app, Disk.rows_cons, if_neg (fun e => hg e.symm)]
      exact List.append_nil _
  · left
    obtain ⟨h5, h6⟩ := h.fails h4
    rw [if_pos rfl, h6]
    exact ⟨h5, rfl⟩
theorem there_on {p : Bool} {R : Nat} {keep : List Bool} {N : Nat} {m : M} (h : On p R keep N m) {f : Int} (hr : rows f m.l ≠ []) : there m f = 0 := by
  unfold there
  rw [h.off, if_neg (by decide), if_pos ((here_rows h.inv f).2 hr)]
theorem there_none {p : Bool} {R : Nat} {keep : List Bool} {N : Nat} {m : M} (h : On p R keep N m) {f : Int} (hr : rows f m.l = []) : there m f = 4 := by
  unfold there
  rw [h.off, if_neg (by decide), if_neg (fun hf => (here_rows h.inv f).1 hf hr)]
theorem sync_on {p : Bool} {R : Nat} {keep : List Bool} {N : Nat} {m : M} (h : On p R keep N m) (f : Int) (hr : rows f m.l ≠ []) :
    (p = false ∧ sync m f = (8, lost m keep)) ∨ ∃ m2, sync m f = (0, m2) ∧ On p R keep N m2 ∧ rows f m2.l = (rows f m.l).map Sc.syn ∧ ∀ g, g ≠ f → rows g m2.l = rows g m.l := by
  have ht := there_on h hr
  have hinv := h.inv.sync f
  unfold sync at hinv ⊢
  rw [ht, if_neg (by decide)] at hinv ⊢
  cases h4 : fails m
  · right
    rw [h4, if_neg (by decide)] at hinv
    obtain ⟨e1, e2, e3, e4⟩ := stepped_same h4
    refine ⟨_, if_neg (by decide), ⟨e4.trans h.off, hinv, stepped_plan h.plan, ?_, e3.trans h.room, fun hp => stepped_calm (h.calm hp)⟩, ?_, fun g hg => ?_⟩
    · show (syncL f m.l).length ≤ N
      unfold syncL
      rw [List.length_map]
      exact h.few
    · show rows f (syncL f m.l) = _
      rw [Disk.rows_sync, if_pos rfl]
    · show rows g (syncL f m.l) = _
      rw [Disk.rows_sync, if_neg hg]
  · left
    obtain ⟨h5, h6⟩ := h.fails h4
    rw [if_pos rfl, h6]
    exact ⟨h5, rfl⟩
theorem remove_on {p : Bool} {R : Nat} {keep : List Bool} {N : Nat} {m : M} (h : On p R keep N m) (f : Int) (hr : rows f m.l ≠ []) :
    (p = false ∧ remove m f = (8, lost m keep)) ∨ ∃ m2, remove m f = (0, m2) ∧ On p R keep N m2 ∧ rows f m2.l = [] ∧ ∀ g, g ≠ f → rows g m2.l = rows g m.l := by
  have ht := there_on h hr
  have hinv := h.inv.remove f
  unfold remove at hinv ⊢
  rw [ht, if_neg (by decide)] at hinv ⊢
  cases h4 : fails m
  · right
    rw [h4, if_neg (by decide)] at hinv
    obtain ⟨e1, e2, e3, e4⟩ := stepped_same h4
    refine ⟨_, if_neg (by decide), ⟨e4.trans h.off, hinv, stepped_plan h.plan, ?_, e3.trans h.room, fun hp => stepped_calm (h.calm hp)⟩, ?_, fun g hg => ?_⟩
    · show (dropL f m.l).length ≤ N
      exact Nat.le_trans (List.length_filter_le _ _) h.few
    · show rows f (dropL f m.l) = _
      rw [Disk.rows_drop, if_pos rfl]
    · show rows g (dropL f m.l) = _
      rw [Disk.rows_drop, if_neg hg]
  · left
    obtain ⟨h5, h6⟩ := h.fails h4
    rw [if_pos rfl, h6]
    exact ⟨h5, rfl⟩
theorem rename_on {p : Bool} {R : Nat} {keep : List Bool} {N : Nat} {m : M} (h : On p R keep N m) (hr : rows 1 m.l ≠ []) :
    (p = false ∧ rename m 1 0 = (8, lost m keep)) ∨ ∃ m2, rename m 1 0 = (0, m2) ∧ On p R keep N m2 ∧ rows 0 m2.l = rows 1 m.l ∧ rows 1 m2.l = [] ∧ ∀ g, g ≠ 0 → g ≠ 1 → rows g m2.l = rows g m.l := by
  have ht := there_on h hr
  have hinv := h.inv.rename 1 0 (by decide)
  unfold rename at hinv ⊢
  rw [ht, if_neg (by decide), if_neg (by decide)] at hinv ⊢
  cases h4 : fails m
  · right
    rw [h4, if_neg (by decide), if_neg (by decide)] at hinv
    obtain ⟨e1, e2, e3, e4⟩ := stepped_same h4
    have hd : ∀ c ∈ dropL 0 m.l, c.file ≠ 0 := fun c hc => by simpa [dropL] using (List.mem_filter.1 hc).2
    refine ⟨{ stepped m with files := without 1 (add 0 m.files), l := moveL 1 0 (dropL 0 m.l) }, by rw [if_neg (by decide), if_neg (by decide)], ⟨e4.trans h.off, hinv, stepped_plan h.plan, ?_, e3.trans h.room, fun hp => stepped_calm (h.calm hp)⟩, ?_, ?_, fun g hg hg1 => ?_⟩
    · show (moveL 1 0 (dropL 0 m.l)).length ≤ N
      unfold moveL
      rw [List.length_map]
      exact Nat.le_trans (List.length_filter_le _ _) h.few
    · show rows 0 (moveL 1 0 (dropL 0 m.l)) = _
      rw [Disk.rows_move 1 0 0 _ (by decide) hd, if_pos rfl, Disk.rows_drop, if_neg (by decide)]
    · show rows 1 (moveL 1 0 (dropL 0 m.l)) = _
      rw [Disk.rows_move 1 0 1 _ (by decide) hd, if_neg (by decide), if_pos rfl]
    · show rows g (moveL 1 0 (dropL 0 m.l)) = _
      rw [Disk.rows_move 1 0 g _ (by decide) hd, if_neg hg, if_neg hg1, Disk.rows_drop, if_neg hg]
  · left
    obtain ⟨h5, h6⟩ := h.fails h4
    rw [if_pos rfl, h6]
    exact ⟨h5, rfl⟩
end Go.Proofs.YtdaknfepcbooeaaGreat.Sto
end

section
namespace Go.Proofs.YtdaknfepcbooeaaGreat.Sto
open Go.Proofs.YtdaknfepcbooeaaGreat.Segm (Gm appendS syncS beginS leads wrs secsOf wrs_nil wrs_on wrs_bad secsAll secsAll_len secsAll_snoc secP pieces ptsOf ks secs_512)
open Go.Proofs.YtdaknfepcbooeaaGreat.Disk (M Sc Cl rows append sync remove rename there Inv fails stepped lost crash up)
set_option linter.unusedVariables false
set_option linter.unusedSimpArgs false

/-- What a failure of the power left: a journal whose first records are sy. -/
def Gone (keep : List Bool) (m : M) (sy : List (List (BitVec 8))) : Prop :=
  ∃ mi ep rs, m = lost mi keep ∧ Inv mi ∧ mi.l.length ≤ 200 ∧ Jr mi ep rs sy.length ∧ rs.take sy.length = sy
theorem Gone.off {keep : List Bool} {m : M} {sy : List (List (BitVec 8))} (h : Gone keep m sy) : m.off = true := by
  obtain ⟨mi, ep, rs, rfl, _⟩ := h
  rfl
theorem Gone.read {keep : List Bool} {m : M} {sy : List (List (BitVec 8))} (h : Gone keep m sy) : ∃ ep recs, openT (up m) = (0, ep, recs) ∧ sy.length ≤ recs.length ∧ recs.take sy.length = sy := by
  obtain ⟨mi, ep, rs, rfl, hi, _, hj, ht⟩ := h
  obtain ⟨r, h1, h2, h3⟩ := hj.read hi keep
  refine ⟨ep, rs.take r, h3, by rw [List.length_take]; omega, ?_⟩
  rw [List.take_take, Nat.min_eq_left h1, ht]
theorem Gone.few {keep : List Bool} {m : M} {sy : List (List (BitVec 8))} (h : Gone keep m sy) (f : Int) : (rows f (up m).l).length ≤ 200 := by
  obtain ⟨mi, ep, rs, rfl, hi, hl, _⟩ := h
  have h4 := Disk.rows_len f (up (lost mi keep)).l
  have h5 : (up (lost mi keep)).l.length = mi.l.length := (Disk.passes_bound keep mi.files mi.l).2
  omega
/-- The disk is on, and the store is not broken: the records rs were appended, the first n are synced. -/
structure J (p : Bool) (R : Nat) (keep : List Bool) (k : Nat) (m : M) (s : St) (rs : List (List (BitVec 8))) (n : Nat) : Prop where
  on : On p R keep (6 * k) m
  ok : s.broken = false
  low : s.ep.toNat ≤ k
  le : n ≤ rs.length
  zero : s.ep = 0#32 → s.g = none ∧ rows 0 m.l = [] ∧ n = 0
  pos : s.ep ≠ 0#32 → s.g = some ⟨fileOf s.ep, s.ep, (secsAll s.ep rs).length, false⟩ ∧ rows 0 m.l = [⟨headSec s.ep, true⟩] ∧ 0 < n ∧
    ∃ vs, rows (fileOf s.ep) m.l = ks true (secsAll s.ep (rs.take n)) ++ ks false vs ∧ secsAll s.ep (rs.take n) ++ vs = secsAll s.ep rs
  one : rows 1 m.l = []
  cnt : rs.length ≤ k
theorem J.jr {p : Bool} {R : Nat} {keep : List Bool} {k : Nat} {m : M} {s : St} {rs : List (List (BitVec 8))} {n : Nat} (h : J p R keep k m s rs n) : Jr m s.ep rs n :=
  ⟨h.le, fun e => (h.zero e).2, fun e => ⟨(h.pos e).2.1, (h.pos e).2.2.1⟩, fun e => by
    obtain ⟨vs, h1, h2⟩ := (h.pos e).2.2.2
    exact ⟨_, vs, h1, by rw [h2]; exact List.prefix_refl _, rfl⟩⟩
theorem gone_of {keep : List Bool} {mi : M} {ep : BitVec 32} {rs : List (List (BitVec 8))} {n : Nat} (hi : Inv mi) (hl2 : mi.l.length ≤ 200) (h : Jr mi ep rs n) : Gone keep (lost mi keep) (rs.take n) := by
  have hl : (rs.take n).length = n := by rw [List.length_take]; have := h.le; omega
  exact ⟨mi, ep, rs, rfl, hi, hl2, by rw [hl]; exact h, by rw [hl]⟩
theorem J.gone {p : Bool} {R : Nat} {keep : List Bool} {k : Nat} {m : M} {s : St} {rs : List (List (BitVec 8))} {n : Nat} (h : J p R keep k m s rs n) (hk : k ≤ 30) : Gone keep (lost m keep) (rs.take n) := gone_of h.on.inv (by have := h.on.few; omega) h.jr
theorem J.start (p : Bool) (R : Nat) (keep : List Bool) (m : M) (hoff : m.off = false) (hi : Inv m) (hl : m.l = []) (hp : ∀ k ks, m.plan = some (k, ks) → ks = keep) (hr : m.room = R) (hcalm : p = true → m.plan = none) : J p R keep 0 m ⟨0#32, none, false⟩ [] 0 :=
  ⟨⟨hoff, hi, hp, by rw [hl]; exact Nat.le_refl _, hr, hcalm⟩, rfl, Nat.le_refl _, Nat.le_refl _, fun _ => ⟨rfl, by rw [hl]; rfl, rfl⟩, fun e => absurd rfl e, by rw [hl]; rfl, Nat.le_refl _⟩
theorem J.next {p : Bool} {R : Nat} {keep : List Bool} {k : Nat} {m : M} {s : St} {rs : List (List (BitVec 8))} {n : Nat} (h : J p R keep k m s rs n) : J p R keep (k + 1) m s rs n :=
  ⟨h.on.more (by omega), h.ok, by have := h.low; omega, h.le, h.zero, h.pos, h.one, Nat.le_succ_of_le h.cnt⟩

theorem wrs_goes {p : Bool} {R : Nat} {keep : List Bool} : ∀ (L : List (List (BitVec 8))) (m : M) (g : Gm) (N : Nat), On p R keep N m → (0 ≤ g.file ∧ g.file < 9223372036854775808) → (∀ b ∈ L, b.length = 512) → N + L.length ≤ 200 → N + L.length ≤ R →
    (∃ mi g' j N', p = false ∧ wrs L m g = (8, lost mi keep, g') ∧ (On p R keep N' mi ∧ N' ≤ 200) ∧ rows g.file mi.l = rows g.file m.l ++ ks false (L.take j) ∧ ∀ x, x ≠ g.file → rows x mi.l = rows x m.l) ∨
    (∃ m2, wrs L m g = (0, m2, { g with size := g.size + L.length }) ∧ On p R keep (N + L.length) m2 ∧ rows g.file m2.l = rows g.file m.l ++ ks false L ∧ ∀ x, x ≠ g.file → rows x m2.l = rows x m.l)
  | [], m, g, N, h, _, _, _, _ => .inr ⟨m, rfl, h, (List.append_nil _).symm, fun _ _ => rfl⟩
  | b :: L, m, g, N, h, hf, hb, hN, hR => by
    rw [List.length_cons] at hN hR
    rcases append_on h g.file b hf (hb b List.mem_cons_self) (by omega) (by omega) with ⟨h0, h1⟩ | ⟨m1, h1, h2, h3, h4⟩
    · left
      refine ⟨m, { g with broken := true }, 0, N, h0, ?_, ⟨h, by omega⟩, (List.append_nil _).symm, fun _ _ => rfl⟩
      rw [wrs_bad (by rw [h1]; exact (by decide : ¬ (8 : Int) = 0)), h1]
    · have e : wrs (b :: L) m g = wrs L m1 { g with size := g.size + 1 } := by rw [wrs_on (by rw [h1]), h1]
      rw [e]
      rcases wrs_goes L m1 { g with size := g.size + 1 } (N + 1) h2 hf (fun x hx => hb x (List.mem_cons_of_mem _ hx)) (by omega) (by omega) with ⟨mi, g', j, N', k0, k1, k2, k3, k4⟩ | ⟨m2, k1, k2, k3, k4⟩
      · left
        refine ⟨mi, g', j + 1, N', k0, k1, k2, ?_, fun x hx => (k4 x hx).trans (h4 x hx)⟩
        rw [List.take_succ_cons]
        refine k3.trans ?_
        show rows g.file m1.l ++ _ = _
        rw [h3, List.append_assoc]
        rfl
      · right
        refine ⟨m2, ?_, ?_, ?_, fun x hx => (k4 x hx).trans (h4 x hx)⟩
        · rw [k1, List.length_cons]
          show (_, _, (⟨g.file, g.ep, g.size + 1 + L.length, g.broken⟩ : Gm)) = (_, _, (⟨g.file, g.ep, g.size + (L.length + 1), g.broken⟩ : Gm))
          rw [Nat.add_assoc, Nat.add_comm 1]
        · rw [List.length_cons]
          exact k2.more (by omega)
        · refine k3.trans ?_
          show rows g.file m1.l ++ _ = _
          rw [h3, List.append_assoc]
          rfl
theorem secsOf_few (g : Gm) (b : List (BitVec 8)) (hb : b.length ≤ 2000) : (secsOf g b).length ≤ 5 := by
  have h4 := Frag.cut_length_le g.ep (BitVec.ofNat 32 g.size) b
  have h5 : (secsOf g b).length = (Frag.cut g.ep (BitVec.ofNat 32 g.size) b).length := List.length_map ..
  omega
theorem appendS_goes {p : Bool} {R : Nat} {keep : List Bool} {m : M} {g : Gm} {N : Nat} (b : List (BitVec 8)) (h : On p R keep N m) (hf : 0 ≤ g.file ∧ g.file < 9223372036854775808) (hbr : g.broken = false) (hb : b.length ≤ 2000) (hN : N + 5 ≤ 200) (hR : N + 5 ≤ R) :
    (∃ mi g' j N', p = false ∧ appendS m g b = (8, lost mi keep, g') ∧ (On p R keep N' mi ∧ N' ≤ 200) ∧ rows g.file mi.l = rows g.file m.l ++ ks false ((secsOf g b).take j) ∧ ∀ x, x ≠ g.file → rows x mi.l = rows x m.l) ∨
    (∃ m2, appendS m g b = (0, m2, { g with size := g.size + (secsOf g b).length }) ∧ On p R keep (N + 5) m2 ∧ rows g.file m2.l = rows g.file m.l ++ ks false (secsOf g b) ∧ ∀ x, x ≠ g.file → rows x m2.l = rows x m.l) := by
  have hfew := secsOf_few g b hb
  unfold appendS
  rw [if_neg (by rw [hbr]; decide), if_neg (by omega)]
  rcases wrs_goes (secsOf g b) m g N h hf (secs_512 g b) (by omega) (by omega) with h1 | ⟨m2, k1, k2, k3, k4⟩
  · exact .inl h1
  · exact .inr ⟨m2, k1, k2.more (by omega), k3, k4⟩

/-! Sync and Append. -/
theorem ks_syn (us : List (List (BitVec 8))) (b : Bool) : (ks b us).map Sc.syn = ks true us := by
  unfold ks
  rw [List.map_map]
  rfl
theorem ks_app (b : Bool) (us vs : List (List (BitVec 8))) : ks b (us ++ vs) = ks b us ++ ks b vs := List.map_append
theorem ks_ne {b : Bool} {us : List (List (BitVec 8))} (h : 0 < us.length) : ks b us ≠ [] := fun e => by
  have := congrArg List.length e
  simp [ks] at this
  rw [this] at h
  exact absurd h (by decide)
theorem secs_some (ep : BitVec 32) (rs : List (List (BitVec 8))) (h : 0 < rs.length) : 0 < (secsAll ep rs).length := by
  rw [secsAll_len]
  cases rs with
  | nil => simp at h
  | cons b rs =>
    have e : pieces (b :: rs) = Frag.pcs 1 b ++ pieces rs := rfl
    rw [e, List.length_append]
    have := Frag.pcs_length_pos 1 b
    omega
theorem fileOf_fit (ep : BitVec 32) : 0 ≤ fileOf ep ∧ fileOf ep < 9223372036854775808 := by
  rcases fileOf_or ep with h | h <;> rw [h] <;> decide
theorem sync_goes7 {p : Bool} {R : Nat} {keep : List Bool} {k : Nat} {m : M} {s : St} {rs : List (List (BitVec 8))} {n : Nat} (h : J p R keep k m s rs n) (hk : k ≤ 30) :
    (∃ m', p = false ∧ syncT m s = (8, m', ⟨s.ep, s.g.map (fun g => { g with broken := true }), true⟩) ∧ Gone keep m' (rs.take n)) ∨ (s.ep = 0#32 ∧ syncT m s = (4, m, s)) ∨ (∃ m', syncT m s = (0, m', s) ∧ J p R keep (k + 1) m' s rs rs.length) := by
  by_cases he : s.ep = 0#32
  · obtain ⟨hg, _, _⟩ := h.zero he
    refine .inr (.inl ⟨he, ?_⟩)
    unfold syncT
    rw [if_neg (by rw [h.ok]; decide), hg]
  · obtain ⟨hg, h0, hn, vs, hr, hall⟩ := h.pos he
    have hrl := h.le
    have hpos := secs_some s.ep rs (by omega)
    have hne : rows (fileOf s.ep) m.l ≠ [] := by
      rw [hr]
      intro e
      have h1 := congrArg List.length e
      have h2 := congrArg List.length hall
      rw [List.length_append] at h1 h2
      simp [ks] at h1
      rw [h1.1, h1.2] at h2
      simp at h2
      omega
    have e1 : syncT m s = ((sync m (fileOf s.ep)).1, (sync m (fileOf s.ep)).2, ⟨s.ep, some ⟨fileOf s.ep, s.ep, (secsAll s.ep rs).length, !decide ((sync m (fileOf s.ep)).1 = 0)⟩, !decide ((sync m (fileOf s.ep)).1 = 0)⟩) := by
      unfold syncT
      rw [if_neg (by rw [h.ok]; decide), hg]
      have e2 : syncS m ⟨fileOf s.ep, s.ep, (secsAll s.ep rs).length, false⟩ = ((sync m (fileOf s.ep)).1, (sync m (fileOf s.ep)).2, ⟨fileOf s.ep, s.ep, (secsAll s.ep rs).length, !decide ((sync m (fileOf s.ep)).1 = 0)⟩) := by
        unfold syncS
        rw [if_neg (by simp), if_neg (by dsimp only; omega)]
      dsimp only
      rw [e2]
    rw [e1]
    rcases sync_on h.on (fileOf s.ep) hne with ⟨hp, h1⟩ | ⟨m2, h1, h2, h3, h4⟩
    · left
      rw [h1, hg]
      exact ⟨_, hp, rfl, h.gone hk⟩
    · right; right
      rw [h1]
      have es : s = ⟨s.ep, some ⟨fileOf s.ep, s.ep, (secsAll s.ep rs).length, false⟩, false⟩ := by
        have h5 := h.ok
        cases s
        dsimp only at hg h5 ⊢
        rw [hg, h5]
      refine ⟨m2, by rw [es]; rfl, h2.more (by omega), h.ok, by have := h.low; omega, Nat.le_refl _, fun e => absurd e he, fun _ => ⟨hg, ?_, by omega, [], ?_, ?_⟩, ?_, Nat.le_succ_of_le h.cnt⟩
      · rw [h4 0 (Ne.symm (fileOf_ne s.ep).1), h0]
      · rw [h3, hr, List.map_append, ks_syn, ks_syn, ← ks_app, hall, List.take_length]
        exact (List.append_nil _).symm
      · rw [List.take_length, List.append_nil]
      · rw [h4 1 (Ne.symm (fileOf_ne s.ep).2), h.one]
theorem append_goes7 {p : Bool} {R : Nat} {keep : List Bool} {k : Nat} {m : M} {s : St} {rs : List (List (BitVec 8))} {n : Nat} (h : J p R keep k m s rs n) (b : List (BitVec 8)) (hb : b.length ≤ 2000) (hk : k < 30) (hR : 6 * k + 6 ≤ R) :
    (∃ m' s', p = false ∧ appendT m s b = (8, m', s') ∧ Gone keep m' (rs.take n)) ∨ (s.ep = 0#32 ∧ appendT m s b = (4, m, s)) ∨ (∃ m' s', appendT m s b = (0, m', s') ∧ J p R keep (k + 1) m' s' (rs ++ [b]) n) := by
  by_cases he : s.ep = 0#32
  · obtain ⟨hg, _, _⟩ := h.zero he
    refine .inr (.inl ⟨he, ?_⟩)
    unfold appendT
    rw [if_neg (by rw [h.ok]; decide), hg]
  · obtain ⟨hg, h0, hn, vs, hr, hall⟩ := h.pos he
    have hrl := h.le
    have htk : (rs ++ [b]).take n = rs.take n := List.take_append_of_le_length hrl
    obtain ⟨g, hgg⟩ : ∃ g : Gm, g = ⟨fileOf s.ep, s.ep, (secsAll s.ep rs).length, false⟩ := ⟨_, rfl⟩
    have hsnoc : secsAll s.ep (rs ++ [b]) = secsAll s.ep rs ++ secsOf g b := by rw [hgg]; exact secsAll_snoc s.ep rs b _ _
    have hgf : g.file = fileOf s.ep := by rw [hgg]
    rw [← hgg] at hg
    have e1 : appendT m s b = ((appendS m g b).1, (appendS m g b).2.1, ⟨s.ep, some (appendS m g b).2.2, !decide ((appendS m g b).1 = 0)⟩) := by
      unfold appendT
      rw [if_neg (by rw [h.ok]; decide), hg]
      dsimp only
      rw [if_neg (by omega)]
    rw [e1]
    rcases appendS_goes b h.on (g := g) (by rw [hgf]; exact fileOf_fit s.ep) (by rw [hgg]) hb (by omega) (by omega) with ⟨mi, g', j, N', k0, k1, k2, k3, k4⟩ | ⟨m2, k1, k2, k3, k4⟩
    · left
      rw [k1]
      rw [hgf] at k3 k4
      refine ⟨_, _, k0, rfl, ?_⟩
      rw [← htk]
      refine gone_of (ep := s.ep) k2.1.inv (by have := k2.1.few; omega) ⟨by rw [List.length_append]; omega, fun e => absurd e he, fun _ => ⟨by rw [k4 0 (Ne.symm (fileOf_ne s.ep).1), h0], hn⟩, fun _ => ⟨secsAll s.ep (rs.take n), vs ++ (secsOf g b).take j, ?_, ?_, by rw [htk]⟩⟩
      · rw [k3, hr, ks_app, List.append_assoc]
      · rw [← List.append_assoc, hall, hsnoc]
        exact (List.prefix_append_right_inj _).2 (List.take_prefix _ _)
    · right; right
      rw [k1]
      rw [hgf] at k3 k4
      refine ⟨_, _, rfl, k2.more (by omega), rfl, by have := h.low; show s.ep.toNat ≤ _; omega, by rw [List.length_append]; omega, fun e => absurd e he, fun _ => ⟨?_, ?_, hn, vs ++ secsOf g b, ?_, ?_⟩, ?_, by rw [List.length_append]; exact Nat.succ_le_succ h.cnt⟩
      · show some (⟨g.file, g.ep, g.size + (secsOf g b).length, g.broken⟩ : Gm) = some _
        rw [hsnoc, List.length_append, hgg]
      · show rows 0 m2.l = _
        rw [k4 0 (Ne.symm (fileOf_ne s.ep).1), h0]
      · show rows (fileOf s.ep) m2.l = _
        rw [k3, hr, ks_app, List.append_assoc, htk]
      · show secsAll s.ep _ ++ _ = secsAll s.ep _
        rw [htk, ← List.append_assoc, hall, hsnoc]
      · show rows 1 m2.l = _
        rw [k4 1 (Ne.symm (fileOf_ne s.ep).2), h.one]

/-! Begin. -/
theorem beginS_goes {p : Bool} {R : Nat} {keep : List Bool} {m : M} {N : Nat} (f : Int) (h : On p R keep N m) (hf : 0 ≤ f) :
    (p = false ∧ beginS m f = (8, false, lost m keep)) ∨ ∃ m1, beginS m f = (0, true, m1) ∧ On p R keep N m1 ∧ rows f m1.l = [] ∧ ∀ x, x ≠ f → rows x m1.l = rows x m.l := by
  unfold beginS
  rw [if_neg (by rw [h.off]; decide), if_neg (by omega)]
  by_cases hm : f ∈ m.files
  · rw [if_pos hm]
    rcases remove_on h f ((here_rows h.inv f).1 hm) with ⟨hp, h1⟩ | ⟨m2, h1, h2, h3, h4⟩
    · left
      rw [h1, if_neg (show ¬ (8 : Int) = 0 by decide)]
      exact ⟨hp, rfl⟩
    · right
      rw [h1, if_pos rfl]
      exact ⟨m2, rfl, h2, h3, h4⟩
  · right
    rw [if_neg hm]
    exact ⟨m, rfl, h, h.inv.none_ hm, fun _ _ => rfl⟩
theorem run_stop {ep : BitVec 32} {b : List (BitVec 8)} {n i : Nat} {m m' : M} {g g' : Option Gm} (h : stp ep b i m g = (8, m', g')) : run7 ep b (n + 1) i m g = (8, m', g') := by
  rw [run7_stops (by rw [h]; exact (by decide : ¬ (8 : Int) = 0)), h]
theorem run_go {ep : BitVec 32} {b : List (BitVec 8)} {n i : Nat} {m m' : M} {g g' : Option Gm} (h : stp ep b i m g = (0, m', g')) : run7 ep b (n + 1) i m g = run7 ep b n (i + 1) m' g' := by
  rw [run7_goes (by rw [h]), h]
/-- Beginning anew: the journal is as it was, when a step fails; or it is the new one. -/
theorem anew_goes {p : Bool} {R : Nat} {keep : List Bool} {k : Nat} {m : M} {s : St} {rs : List (List (BitVec 8))} {n : Nat} (h : J p R keep k m s rs n) (b : List (BitVec 8)) (hb : b.length ≤ 2000) (hk : k < 30) (hR : 6 * k + 6 ≤ R) (hep : s.ep ≠ 4294967295#32) :
    (∃ m' g', p = false ∧ anew m (s.ep + 1#32) b = (8, m', g') ∧ Gone keep m' (rs.take n)) ∨
    (∃ m' g', anew m (s.ep + 1#32) b = (0, m', g') ∧ J p R keep (k + 1) m' ⟨s.ep + 1#32, g', false⟩ [b] 1) := by
  obtain ⟨ep', hep'⟩ : ∃ e, e = s.ep + 1#32 := ⟨_, rfl⟩
  obtain ⟨f, hf⟩ : ∃ f, f = fileOf ep' := ⟨_, rfl⟩
  have hf0 : f ≠ 0 := by rw [hf]; exact (fileOf_ne ep').1
  have hf1 : f ≠ 1 := by rw [hf]; exact (fileOf_ne ep').2
  have hff := fileOf_fit ep'
  have hfo : fileOf s.ep ≠ f := by rw [hf, hep']; exact Ne.symm (fileOf_next s.ep)
  have htn : ep'.toNat = s.ep.toNat + 1 := by
    have h1 : ep'.toNat = (s.ep.toNat + 1) % 4294967296 := by rw [hep']; simp [BitVec.toNat_add]
    have h2 := s.ep.isLt
    have h3 : s.ep.toNat ≠ 4294967295 := fun e => hep (BitVec.eq_of_toNat_eq (by rw [e]; rfl))
    omega
  have hne : ep' ≠ 0#32 := fun e => by rw [e] at htn; simp at htn
  rw [← hep']
  unfold anew
  -- the old journal, while its files are as they were
  have old : ∀ {mi : M} {N : Nat}, On p R keep N mi → N ≤ 200 → rows 0 mi.l = rows 0 m.l → rows (fileOf s.ep) mi.l = rows (fileOf s.ep) m.l → Gone keep (lost mi keep) (rs.take n)   := fun ho hN h0 h1 => gone_of ho.inv (by have := ho.few; omega) (h.jr.same h0 fun _ => h1)
  have h01 : (0 : Int) ≠ 1 := by decide
  rcases beginS_goes f h.on (by rw [hf]; exact hff.1) with ⟨hp, a1⟩ | ⟨m1, a1, o1, r1, t1⟩
  · left
    exact ⟨_, none, hp, run_stop (by rw [stp, ← hf, a1]; rfl), h.gone (by omega)⟩
  have s1 : stp ep' b 0 m none = (0, m1, some ⟨f, ep', 0, false⟩) := by rw [stp, ← hf, a1]; rfl
  rw [run_go s1]
  rcases appendS_goes b o1 (g := ⟨f, ep', 0, false⟩) (by rw [hf]; exact hff) rfl hb (by omega) (by omega) with ⟨mi, g', j, N', hp, a2, o2, r2, t2⟩ | ⟨m2, a2, o2, r2, t2⟩
  · left
    refine ⟨_, some g', hp, run_stop (by rw [stp, a2]), old o2.1 o2.2 ?_ ?_⟩
    · rw [t2 0 (Ne.symm hf0), t1 0 (Ne.symm hf0)]
    · rw [t2 _ hfo, t1 _ hfo]
  have hsec : secsOf ⟨f, ep', 0, false⟩ b = secsAll ep' [b] := by
    have := secsAll_snoc ep' [] b f false
    rw [List.nil_append] at this
    exact this.symm
  dsimp only at r2 t2
  rw [hsec] at a2 r2
  rw [r1, List.nil_append] at r2
  dsimp only at a2
  rw [Nat.zero_add] at a2
  have s2 : stp ep' b 1 m1 (some ⟨f, ep', 0, false⟩) = (0, m2, some ⟨f, ep', (secsAll ep' [b]).length, false⟩) := by rw [stp, a2]
  rw [run_go s2]
  have hpos := secs_some ep' [b] Nat.zero_lt_one
  have e3 : syncS m2 ⟨f, ep', (secsAll ep' [b]).length, false⟩ = ((sync m2 f).1, (sync m2 f).2, ⟨f, ep', (secsAll ep' [b]).length, !decide ((sync m2 f).1 = 0)⟩) := by
    unfold syncS
    rw [if_neg (by simp), if_neg (by dsimp only; omega)]
  have u2 : rows 0 m2.l = rows 0 m.l := by rw [t2 0 (Ne.symm hf0), t1 0 (Ne.symm hf0)]
  have v2 : rows (fileOf s.ep) m2.l = rows (fileOf s.ep) m.l := by rw [t2 _ hfo, t1 _ hfo]
  have w2 : rows 1 m2.l = [] := by rw [t2 1 (Ne.symm hf1), t1 1 (Ne.symm hf1), h.one]
  rcases sync_on o2 f (by rw [r2]; exact ks_ne hpos) with ⟨hp, a3⟩ | ⟨m3, a3, o3, r3, t3⟩
  · left
    exact ⟨_, _, hp, run_stop (by rw [stp, e3, a3]), old o2 (by omega) u2 v2⟩
  have s3 : stp ep' b 2 m2 (some ⟨f, ep', (secsAll ep' [b]).length, false⟩) = (0, m3, some ⟨f, ep', (secsAll ep' [b]).length, false⟩) := by rw [stp, e3, a3]; rfl
  rw [run_go s3]
  rw [r2, ks_syn] at r3
  have u3 : rows 0 m3.l = rows 0 m.l := by rw [t3 0 (Ne.symm hf0), u2]
  have v3 : rows (fileOf s.ep) m3.l = rows (fileOf s.ep) m.l := by rw [t3 _ hfo, v2]
  have w3 : rows 1 m3.l = [] := by rw [t3 1 (Ne.symm hf1), w2]
  have a4 : remove m3 1 = (4, m3) := by
    have h4 := there_none o3 w3
    unfold remove
    rw [h4]
    exact if_pos (by decide)
  have s4 : stp ep' b 3 m3 (some ⟨f, ep', (secsAll ep' [b]).length, false⟩) = (0, m3, some ⟨f, ep', (secsAll ep' [b]).length, false⟩) := by rw [stp, a4]; rfl
  rw [run_go s4]
  rcases append_on o3 1 (headSec ep') (by decide) (headSec_len ep') (by omega) (by omega) with ⟨hp, a5⟩ | ⟨m5, a5, o5, r5, t5⟩
  · left
    exact ⟨_, _, hp, run_stop (by rw [stp, a5]), old o3 (by omega) u3 v3⟩
  have s5 : stp ep' b 4 m3 (some ⟨f, ep', (secsAll ep' [b]).length, false⟩) = (0, m5, some ⟨f, ep', (secsAll ep' [b]).length, false⟩) := by rw [stp, a5]
  rw [run_go s5]
  rw [w3, List.nil_append] at r5
  have hso := fileOf_ne s.ep
  have u5 : rows 0 m5.l = rows 0 m.l := by rw [t5 0 h01, u3]
  have v5 : rows (fileOf s.ep) m5.l = rows (fileOf s.ep) m.l := by rw [t5 _ hso.2, v3]
  rcases sync_on o5 1 (by rw [r5]; exact fun e => by cases e) with ⟨hp, a6⟩ | ⟨m6, a6, o6, r6, t6⟩
  · left
    exact ⟨_, _, hp, run_stop (by rw [stp, a6]), old o5 (by omega) u5 v5⟩
  have s6 : stp ep' b 5 m5 (some ⟨f, ep', (secsAll ep' [b]).length, false⟩) = (0, m6, some ⟨f, ep', (secsAll ep' [b]).length, false⟩) := by rw [stp, a6]
  rw [run_go s6]
  rw [r5] at r6
  have u6 : rows 0 m6.l = rows 0 m.l := by rw [t6 0 h01, u5]
  have v6 : rows (fileOf s.ep) m6.l = rows (fileOf s.ep) m.l := by rw [t6 _ hso.2, v5]
  rcases rename_on o6 (by rw [r6]; exact fun e => by cases e) with ⟨hp, a7⟩ | ⟨m7, a7, o7, r7, q7, t7⟩
  · left
    exact ⟨_, _, hp, run_stop (by rw [stp, a7]), old o6 (by omega) u6 v6⟩
  have s7 : stp ep' b 6 m6 (some ⟨f, ep', (secsAll ep' [b]).length, false⟩) = (0, m7, some ⟨f, ep', (secsAll ep' [b]).length, false⟩) := by rw [stp, a7]
  rw [run_go s7]
  right
  refine ⟨m7, some ⟨f, ep', (secsAll ep' [b]).length, false⟩, rfl, o7.more (by omega), rfl, by have := h.low; show ep'.toNat ≤ _; omega, Nat.le_refl _, fun e => absurd e hne, fun _ => ⟨by rw [hf], ?_, by decide, [], ?_, ?_⟩, q7, by show 1 ≤ k + 1; omega⟩
  · show rows 0 m7.l = _
    rw [r7, r6]
    rfl
  · show rows (fileOf ep') m7.l = _
    rw [← hf, t7 f hf0 hf1, t6 f hf1, t5 f hf1, r3]
    exact (List.append_nil _).symm
  · exact List.append_nil _
theorem begin_goes7 {p : Bool} {R : Nat} {keep : List Bool} {k : Nat} {m : M} {s : St} {rs : List (List (BitVec 8))} {n : Nat} (h : J p R keep k m s rs n) (b : List (BitVec 8)) (hb : b.length ≤ 2000) (hk : k < 30) (hR : 6 * k + 6 ≤ R) :
    (∃ m' s', p = false ∧ beginT m s b = (8, m', s') ∧ Gone keep m' (rs.take n)) ∨ (∃ m' s', beginT m s b = (0, m', s') ∧ J p R keep (k + 1) m' s' [b] 1) := by
  have hlow := h.low
  have hep : s.ep ≠ 4294967295#32 := fun e => by rw [e] at hlow; simp at hlow; omega
  unfold beginT
  rw [if_neg (by rw [h.ok]; decide), if_neg (by rintro (h1 | h1); omega; exact hep h1)]
  rcases anew_goes h b hb hk hR hep with ⟨m', g', hp, h1, h2⟩ | ⟨m', g', h1, h2⟩
  · left
    rw [h1, if_neg (show ¬ (8 : Int) = 0 by decide)]
    exact ⟨_, _, hp, rfl, h2⟩
  · right
    rw [h1, if_pos rfl]
    exact ⟨_, _, rfl, h2⟩
end Go.Proofs.YtdaknfepcbooeaaGreat.Sto
end
