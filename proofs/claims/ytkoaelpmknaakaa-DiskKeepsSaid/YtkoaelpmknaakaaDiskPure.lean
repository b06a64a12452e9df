/-
  Layer 5 (disk), the mathematics: a disk as a list of files, rising, and a list of sectors; what each call makes of it.
-/
namespace Go.Proofs.Ytkoaelpmknaakaa.Disk
set_option linter.unusedSimpArgs false
set_option linter.unusedVariables false

structure Sc where
  b : List (BitVec 8)
  s : Bool
structure Cl where
  file : Int
  b : List (BitVec 8)
  s : Bool
/-- A disk: its room, its files, its sectors, whether it is off; behind how many steps it fails, with which list. -/
structure M where
  room : Nat
  files : List Int
  l : List Cl
  off : Bool
  plan : Option (Nat × List Bool)

def Cl.sc (c : Cl) : Sc := ⟨c.b, c.s⟩
def Sc.syn (x : Sc) : Sc := ⟨x.b, true⟩
/-- A file's sectors. -/
def rows (f : Int) (l : List Cl) : List Sc := (l.filter fun c => decide (c.file = f)).map Cl.sc
def zeros : List (BitVec 8) := List.replicate 512 0#8
def uns : List Sc → Nat
  | [] => 0
  | x :: xs => (if x.s then 0 else 1) + uns xs
/-- What a failure leaves of one row's bytes. -/
def rowZ (keep : List Bool) : Nat → List Sc → List Sc
  | _, [] => []
  | n, x :: xs => if x.s then x :: rowZ keep n xs else ⟨if keep.getD n false then x.b else zeros, false⟩ :: rowZ keep (n + 1) xs
def pass (keep : List Bool) (f : Int) : Nat → List Cl → List Cl
  | _, [] => []
  | n, c :: l => if c.file = f ∧ c.s = false then ⟨c.file, if keep.getD n false then c.b else zeros, true⟩ :: pass keep f (n + 1) l else c :: pass keep f n l
def pstep (keep : List Bool) (p : Nat × List Cl) (f : Int) : Nat × List Cl := (p.1 + uns (rows f p.2), pass keep f p.1 p.2)
def passes (keep : List Bool) (fs : List Int) (l : List Cl) : Nat × List Cl := fs.foldl (pstep keep) (0, l)

def ins (f : Int) : List Int → List Int
  | [] => [f]
  | g :: gs => if f < g then f :: g :: gs else g :: ins f gs
def without (f : Int) (fs : List Int) : List Int := fs.filter fun g => !decide (g = f)
def add (f : Int) (fs : List Int) : List Int := ins f (without f fs)
def syncL (f : Int) (l : List Cl) : List Cl := l.map fun c => if c.file = f then ⟨c.file, c.b, true⟩ else c
def dropL (f : Int) (l : List Cl) : List Cl := l.filter fun c => !decide (c.file = f)
def moveL (f t : Int) (l : List Cl) : List Cl := l.map fun c => if c.file = f then ⟨t, c.b, c.s⟩ else c

def lost (m : M) (keep : List Bool) : M := { m with l := (passes keep m.files m.l).2, off := true, plan := none }
def crash (m : M) (keep : List Bool) : M := if m.off then m else lost m keep
def fails (m : M) : Bool := match m.plan with | some (0, _) => true | _ => false
def stepped (m : M) : M := match m.plan with | some (0, k) => lost m k | some (n + 1, k) => { m with plan := some (n, k) } | none => m

def append (m : M) (f : Int) (b : List (BitVec 8)) : Int × M :=
  if m.off then (8, m) else if f < 0 ∨ b.length ≠ 512 then (1, m) else if m.room ≤ m.l.length ∨ 200 ≤ (rows f m.l).length then (3, m)
  else if fails m then (8, stepped m) else (0, { stepped m with files := add f m.files, l := m.l ++ [⟨f, b, false⟩] })
def there (m : M) (f : Int) : Int := if m.off then 8 else if f ∈ m.files then 0 else 4
def sync (m : M) (f : Int) : Int × M :=
  if there m f ≠ 0 then (there m f, m) else if fails m then (8, stepped m) else (0, { stepped m with l := syncL f m.l })
def remove (m : M) (f : Int) : Int × M :=
  if there m f ≠ 0 then (there m f, m) else if fails m then (8, stepped m) else (0, { stepped m with files := without f m.files, l := dropL f m.l })
def rename (m : M) (f t : Int) : Int × M :=
  if there m f ≠ 0 then (there m f, m) else if t < 0 then (1, m) else if fails m then (8, stepped m) else if f = t then (0, stepped m)
  else (0, { stepped m with files := without f (add t m.files), l := moveL f t (dropL t m.l) })
def fail (m : M) (steps : Int) (keep : List Bool) : M := { m with plan := if steps < 0 then none else some (steps.toNat, keep) }
def up (m : M) : M := { m with off := false }

structure Inv (m : M) : Prop where
  sorted : m.files.Pairwise (· < ·)
  here : ∀ f, f ∈ m.files ↔ ∃ c ∈ m.l, c.file = f
  len : ∀ c ∈ m.l, c.b.length = 512
  most : m.l.length ≤ m.room
  room : 1 ≤ m.room ∧ m.room ≤ 1000
  fit : ∀ f ∈ m.files, -9223372036854775808 ≤ f ∧ f < 9223372036854775808
  plan : ∀ k ks, m.plan = some (k, ks) → k < 9223372036854775808

/-! rows -/
theorem rows_nil (f : Int) : rows f [] = [] := rfl
theorem rows_cons (f : Int) (c : Cl) (l : List Cl) : rows f (c :: l) = if c.file = f then c.sc :: rows f l else rows f l := by
  unfold rows
  by_cases h : c.file = f <;> simp [h]
theorem rows_app (f : Int) (a b : List Cl) : rows f (a ++ b) = rows f a ++ rows f b := by simp [rows]
theorem rows_len (f : Int) (l : List Cl) : (rows f l).length ≤ l.length := by
  unfold rows; rw [List.length_map]; exact List.length_filter_le _ _
theorem rows_512 {l : List Cl} (h : ∀ c ∈ l, c.b.length = 512) (f : Int) : ∀ x ∈ rows f l, x.b.length = 512 := by
  intro x hx
  obtain ⟨c, hc, rfl⟩ := List.mem_map.1 hx
  exact h c (List.mem_filter.1 hc).1
theorem rows_none {l : List Cl} {f : Int} (h : ¬ ∃ c ∈ l, c.file = f) : rows f l = [] := by
  unfold rows
  rw [List.map_eq_nil_iff, List.filter_eq_nil_iff]
  intro c hc e
  exact h ⟨c, hc, by simpa using e⟩
theorem rows_sync (f g : Int) (l : List Cl) : rows g (syncL f l) = if g = f then (rows f l).map Sc.syn else rows g l := by
  induction l with
  | nil => by_cases h : g = f <;> simp [rows, syncL, h]
  | cons c l ih =>
    have e : syncL f (c :: l) = (if c.file = f then ⟨c.file, c.b, true⟩ else c) :: syncL f l := rfl
    rw [e, rows_cons, ih, rows_cons, rows_cons]
    by_cases h : g = f
    · subst h
      by_cases hc : c.file = g <;> simp [hc, Cl.sc, Sc.syn]
    · by_cases hc : c.file = f
      · have : c.file ≠ g := fun e => h (e ▸ hc)
        simp [hc, h, Ne.symm h]
      · simp [hc, h]
theorem rows_drop (f g : Int) (l : List Cl) : rows g (dropL f l) = if g = f then [] else rows g l := by
  induction l with
  | nil => by_cases h : g = f <;> simp [rows, dropL, h]
  | cons c l ih =>
    have e : dropL f (c :: l) = if c.file = f then dropL f l else c :: dropL f l := by unfold dropL; by_cases hc : c.file = f <;> simp [hc]
    rw [e]
    by_cases hc : c.file = f
    · rw [if_pos hc, ih, rows_cons]
      by_cases h : g = f
      · simp [h]
      · have : ¬ c.file = g := fun e => h (e ▸ hc)
        simp [h, this]
    · rw [if_neg hc, rows_cons, ih, rows_cons]
      by_cases h : g = f
      · subst h; simp [hc]
      · simp [h]
theorem rows_move (f t g : Int) (l : List Cl) (hne : f ≠ t) (ht : ∀ c ∈ l, c.file ≠ t) : rows g (moveL f t l) = if g = t then rows f l else if g = f then [] else rows g l := by
  induction l with
  | nil => by_cases h : g = t <;> simp [rows, moveL, h]
  | cons c l ih =>
    have e : moveL f t (c :: l) = (if c.file = f then ⟨t, c.b, c.s⟩ else c) :: moveL f t l := rfl
    have hc0 := ht c (by simp)
    rw [e, rows_cons, ih (fun x hx => ht x (by simp [hx])), rows_cons, rows_cons]
    by_cases hc : c.file = f
    · by_cases h : g = t
      · subst h; simp [hc, Cl.sc]
      · by_cases h2 : g = f
        · subst h2; simp [hc, h, Ne.symm hne]
        · simp [hc, h, h2, Ne.symm h, Ne.symm h2]
    · by_cases h : g = t
      · subst h; simp [hc, hc0]
      · by_cases h2 : g = f
        · subst h2; simp [hc, h]
        · simp [hc, h, h2]

/-! passes -/
theorem uns_app (a b : List Sc) : uns (a ++ b) = uns a + uns b := by
  induction a with
  | nil => simp [uns]
  | cons x a ih => simp [uns, ih, Nat.add_assoc]
theorem uns_le (xs : List Sc) : uns xs ≤ xs.length := by
  induction xs with
  | nil => simp [uns]
  | cons x xs ih => unfold uns; split <;> simp <;> omega
theorem rowZ_cons (keep : List Bool) (n : Nat) (x : Sc) (xs : List Sc) : rowZ keep n (x :: xs) = if x.s then x :: rowZ keep n xs else ⟨if keep.getD n false then x.b else zeros, false⟩ :: rowZ keep (n + 1) xs := rfl
theorem uns_cons (x : Sc) (xs : List Sc) : uns (x :: xs) = (if x.s then 0 else 1) + uns xs := rfl
theorem pass_cons (keep : List Bool) (f : Int) (n : Nat) (c : Cl) (l : List Cl) : pass keep f n (c :: l) = if c.file = f ∧ c.s = false then ⟨c.file, if keep.getD n false then c.b else zeros, true⟩ :: pass keep f (n + 1) l else c :: pass keep f n l := rfl
theorem zeros_len : zeros.length = 512 := List.length_replicate ..
theorem rowZ_len (keep : List Bool) (n : Nat) (xs : List Sc) : (rowZ keep n xs).length = xs.length := by
  induction xs generalizing n with
  | nil => rfl
  | cons x xs ih => unfold rowZ; split <;> simp [ih]
theorem rowZ_app (keep : List Bool) (n : Nat) (a b : List Sc) : rowZ keep n (a ++ b) = rowZ keep n a ++ rowZ keep (n + uns a) b := by
  induction a generalizing n with
  | nil => simp [rowZ, uns]
  | cons x a ih =>
    rw [List.cons_append, rowZ_cons, rowZ_cons, uns_cons]
    cases x.s <;> simp only [ih, Nat.add_assoc, Bool.false_eq_true, if_true, if_false, List.cons_append, Nat.zero_add]
theorem rowZ_512 (keep : List Bool) (n : Nat) (xs : List Sc) (h : ∀ x ∈ xs, x.b.length = 512) : ∀ x ∈ rowZ keep n xs, x.b.length = 512 := by
  induction xs generalizing n with
  | nil => simp [rowZ]
  | cons y xs ih =>
    intro x hx
    have hy := h y (by simp)
    have ih' := fun k => ih k (fun z hz => h z (List.mem_cons_of_mem _ hz))
    unfold rowZ at hx
    cases hs : y.s
    · rw [hs] at hx
      simp at hx
      rcases hx with rfl | hx
      · show (if _ then _ else _ : List (BitVec 8)).length = 512
        split
        · exact hy
        · exact zeros_len
      · exact ih' _ x hx
    · rw [hs] at hx
      simp at hx
      rcases hx with rfl | hx
      · exact hy
      · exact ih' _ x hx
theorem pass_len (keep : List Bool) (f : Int) (n : Nat) (l : List Cl) : (pass keep f n l).length = l.length := by
  induction l generalizing n with
  | nil => rfl
  | cons x xs ih => unfold pass; split <;> simp [ih]
theorem pass_app (keep : List Bool) (f : Int) (n : Nat) (a b : List Cl) : pass keep f n (a ++ b) = pass keep f n a ++ pass keep f (n + uns (rows f a)) b := by
  induction a generalizing n with
  | nil => simp [pass, uns, rows]
  | cons c a ih =>
    rw [List.cons_append, rows_cons, pass_cons, pass_cons]
    by_cases hc : c.file = f
    · cases hs : c.s
      · simp only [hc, uns_cons, Cl.sc, hs, ih, Nat.add_assoc, true_and, if_true, Bool.false_eq_true, if_false, List.cons_append]
      · simp only [hc, uns_cons, Cl.sc, hs, ih, Nat.zero_add, true_and, Bool.true_eq_false, if_true, if_false, List.cons_append]
    · simp only [hc, ih, false_and, if_false, List.cons_append]
theorem rows_pass_same (keep : List Bool) (f : Int) (n : Nat) (l : List Cl) : rows f (pass keep f n l) = (rowZ keep n (rows f l)).map Sc.syn := by
  induction l generalizing n with
  | nil => rfl
  | cons c l ih =>
    unfold pass
    rw [rows_cons]
    by_cases hc : c.file = f
    · cases hs : c.s
      · simp only [hc, true_and, if_true]
        rw [rows_cons, ih]
        simp [hc, rowZ, Cl.sc, hs, Sc.syn]
      · simp only [hc, true_and, Bool.true_eq_false, if_true, if_false]
        rw [rows_cons, ih]
        simp [hc, rowZ, Cl.sc, hs, Sc.syn]
    · simp only [hc, false_and, if_false]
      rw [rows_cons, ih]
      simp [hc]
theorem rows_pass_other (keep : List Bool) (f g : Int) (h : g ≠ f) (n : Nat) (l : List Cl) : rows g (pass keep f n l) = rows g l := by
  induction l generalizing n with
  | nil => rfl
  | cons c l ih =>
    unfold pass
    rw [rows_cons]
    by_cases hc : c.file = f
    · have : ¬ c.file = g := fun e => h (e ▸ hc)
      split
      · rw [rows_cons, ih]; exact if_neg this
      · rw [rows_cons, ih]; exact if_neg this
    · simp only [hc, false_and, if_false]
      rw [rows_cons, ih]
theorem pass_file (keep : List Bool) (f : Int) (n : Nat) (l : List Cl) : (pass keep f n l).map (·.file) = l.map (·.file) := by
  induction l generalizing n with
  | nil => rfl
  | cons c l ih => unfold pass; split <;> simp [ih]
theorem pass_512 (keep : List Bool) (f : Int) (n : Nat) (l : List Cl) (h : ∀ x ∈ l, x.b.length = 512) : ∀ x ∈ pass keep f n l, x.b.length = 512 := by
  induction l generalizing n with
  | nil => simp [pass]
  | cons y xs ih =>
    intro x hx
    have hy := h y (by simp)
    have ih' := fun k => ih k (fun z hz => h z (List.mem_cons_of_mem _ hz))
    unfold pass at hx
    split at hx
    · rcases List.mem_cons.1 hx with rfl | hx
      · show (if _ then _ else _ : List (BitVec 8)).length = 512
        split
        · exact hy
        · exact zeros_len
      · exact ih' _ x hx
    · rcases List.mem_cons.1 hx with rfl | hx
      · exact hy
      · exact ih' _ x hx
def unsL : List Cl → Nat
  | [] => 0
  | c :: l => (if c.s then 0 else 1) + unsL l
theorem unsL_le (l : List Cl) : unsL l ≤ l.length := by
  induction l with
  | nil => simp [unsL]
  | cons x xs ih => unfold unsL; split <;> simp <;> omega
theorem pass_uns (keep : List Bool) (f : Int) (n : Nat) (l : List Cl) : unsL (pass keep f n l) + uns (rows f l) = unsL l := by
  induction l generalizing n with
  | nil => rfl
  | cons c l ih =>
    unfold pass
    rw [rows_cons]
    by_cases hc : c.file = f
    · cases hs : c.s
      · have := ih (n + 1)
        simp [hc, unsL, uns, Cl.sc, hs]; omega
      · have := ih n
        simp [hc, unsL, uns, Cl.sc, hs]; omega
    · have := ih n
      simp [hc, unsL]; omega
theorem pass_congr (k1 k2 : List Bool) (f : Int) (n : Nat) (l : List Cl) (h : ∀ i, i < n + unsL l → k1.getD i false = k2.getD i false) : pass k1 f n l = pass k2 f n l := by
  induction l generalizing n with
  | nil => rfl
  | cons c l ih =>
    unfold pass
    by_cases hc : c.file = f ∧ c.s = false
    · rw [if_pos hc, if_pos hc, ih (n + 1) (fun i hi => h i (by simp [unsL, hc.2]; omega)), h n (by simp [unsL, hc.2]; omega)]
    · rw [if_neg hc, if_neg hc, ih n (fun i hi => h i (by unfold unsL; omega))]
theorem foldl_congr (k1 k2 : List Bool) (fs : List Int) (p : Nat × List Cl) (h : ∀ i, i < p.1 + unsL p.2 → k1.getD i false = k2.getD i false) : fs.foldl (pstep k1) p = fs.foldl (pstep k2) p := by
  induction fs generalizing p with
  | nil => rfl
  | cons f fs ih =>
    have e : pstep k1 p f = pstep k2 p f := by unfold pstep; rw [pass_congr k1 k2 f p.1 p.2 h]
    rw [List.foldl_cons, List.foldl_cons, e]
    refine ih _ fun i hi => h i ?_
    have := pass_uns k2 f p.1 p.2
    simp only [pstep] at hi
    omega
theorem passes_take (keep : List Bool) (fs : List Int) (l : List Cl) (r : Nat) (h : l.length ≤ r) : passes (keep.take r) fs l = passes keep fs l := by
  refine foldl_congr _ _ _ _ fun i hi => ?_
  have := unsL_le l
  rw [List.getD_eq_getElem?_getD, List.getElem?_take, if_pos (by simp at hi; omega), List.getD_eq_getElem?_getD]
theorem passes_snoc (keep : List Bool) (fs : List Int) (k : Nat) (l : List Cl) (f : Int) (h : fs[k]? = some f) : passes keep (fs.take (k + 1)) l = pstep keep (passes keep (fs.take k) l) f := by
  obtain ⟨hk, rfl⟩ := List.getElem?_eq_some_iff.1 h
  unfold passes
  rw [List.take_succ_eq_append_getElem hk, List.foldl_append]
  rfl
theorem foldl_file (keep : List Bool) (fs : List Int) (p : Nat × List Cl) : (fs.foldl (pstep keep) p).2.map (·.file) = p.2.map (·.file) := by
  induction fs generalizing p with
  | nil => rfl
  | cons f fs ih => rw [List.foldl_cons, ih]; exact pass_file keep f _ _
theorem foldl_512 (keep : List Bool) (fs : List Int) (p : Nat × List Cl) (h : ∀ x ∈ p.2, x.b.length = 512) : ∀ x ∈ (fs.foldl (pstep keep) p).2, x.b.length = 512 := by
  induction fs generalizing p with
  | nil => exact h
  | cons f fs ih => rw [List.foldl_cons]; exact ih _ (pass_512 keep f _ _ h)
theorem foldl_rows_other (keep : List Bool) (fs : List Int) (g : Int) (h : g ∉ fs) (p : Nat × List Cl) : rows g (fs.foldl (pstep keep) p).2 = rows g p.2 := by
  induction fs generalizing p with
  | nil => rfl
  | cons f fs ih =>
    rw [List.foldl_cons, ih (fun hm => h (by simp [hm]))]
    exact rows_pass_other keep f g (fun e => h (by simp [e])) _ _
theorem passes_bound (keep : List Bool) (fs : List Int) (l : List Cl) : (passes keep fs l).1 ≤ l.length ∧ (passes keep fs l).2.length = l.length := by
  have key : ∀ (fs : List Int) (p : Nat × List Cl), (fs.foldl (pstep keep) p).1 + unsL (fs.foldl (pstep keep) p).2 = p.1 + unsL p.2 ∧ (fs.foldl (pstep keep) p).2.length = p.2.length := by
    intro fs
    induction fs with
    | nil => intro p; exact ⟨rfl, rfl⟩
    | cons f fs ih =>
      intro p
      rw [List.foldl_cons]
      obtain ⟨h1, h2⟩ := ih (pstep keep p f)
      refine ⟨h1.trans ?_, h2.trans (pass_len keep f _ _)⟩
      have := pass_uns keep f p.1 p.2
      simp only [pstep]; omega
  obtain ⟨h1, h2⟩ := key fs (0, l)
  have := unsL_le l
  refine ⟨?_, h2⟩
  show (fs.foldl (pstep keep) (0, l)).1 ≤ _
  simp at h1; omega

/-! files -/
theorem mem_ins (f g : Int) (fs : List Int) : g ∈ ins f fs ↔ g = f ∨ g ∈ fs := by
  induction fs with
  | nil => simp [ins]
  | cons h fs ih =>
    unfold ins
    split
    · simp
    · simp only [List.mem_cons, ih]; constructor <;> (rintro (h | h | h) <;> simp [h])
theorem mem_without (f g : Int) (fs : List Int) : g ∈ without f fs ↔ g ∈ fs ∧ g ≠ f := by simp [without]
theorem mem_add (f g : Int) (fs : List Int) : g ∈ add f fs ↔ g = f ∨ g ∈ fs := by
  unfold add
  rw [mem_ins, mem_without]
  by_cases h : g = f <;> simp [h]
theorem sorted_ins (f : Int) (fs : List Int) (h : fs.Pairwise (· < ·)) (hn : f ∉ fs) : (ins f fs).Pairwise (· < ·) := by
  induction fs with
  | nil => simp [ins]
  | cons g fs ih =>
    obtain ⟨h1, h2⟩ := List.pairwise_cons.1 h
    have hg : f ≠ g := fun e => hn (by simp [e])
    unfold ins
    split
    · rename_i hlt
      exact List.pairwise_cons.2 ⟨fun x hx => by rcases List.mem_cons.1 hx with rfl | hx; exact hlt; have := h1 x hx; omega, h⟩
    · refine List.pairwise_cons.2 ⟨fun x hx => ?_, ih h2 (fun hm => hn (by simp [hm]))⟩
      rcases (mem_ins f x fs).1 hx with rfl | hx
      · omega
      · exact h1 x hx
theorem sorted_without (f : Int) (fs : List Int) (h : fs.Pairwise (· < ·)) : (without f fs).Pairwise (· < ·) := h.filter _
theorem sorted_add (f : Int) (fs : List Int) (h : fs.Pairwise (· < ·)) : (add f fs).Pairwise (· < ·) :=
  sorted_ins f _ (sorted_without f fs h) (by simp [mem_without])
theorem without_self (f : Int) (fs : List Int) (h : f ∉ fs) : without f fs = fs := by
  unfold without
  rw [List.filter_eq_self]
  intro g hg
  simp; rintro rfl; exact h hg
theorem without_without (f : Int) (fs : List Int) : without f (without f fs) = without f fs := without_self f _ (by simp [mem_without])
theorem add_here (f : Int) (fs : List Int) (hs : fs.Pairwise (· < ·)) (h : f ∈ fs) : add f fs = fs := by
  induction fs with
  | nil => simp at h
  | cons g fs ih =>
    obtain ⟨h1, h2⟩ := List.pairwise_cons.1 hs
    unfold add without
    by_cases hg : g = f
    · subst hg
      have hn : g ∉ fs := fun hm => by have := h1 g hm; omega
      have e : (g :: fs).filter (fun x => !decide (x = g)) = fs := by
        rw [List.filter_cons]; simp; exact fun a ha e => hn (e ▸ ha)
      rw [e]
      cases fs with
      | nil => rfl
      | cons x fs => unfold ins; rw [if_pos (h1 x (by simp))]
    · have hm : f ∈ fs := by rcases List.mem_cons.1 h with e | e; exact absurd e.symm hg; exact e
      have hlt := h1 f hm
      have e : (g :: fs).filter (fun x => !decide (x = f)) = g :: without f fs := by
        rw [List.filter_cons]; simp [hg]; rfl
      rw [e]
      unfold ins
      rw [if_neg (by omega)]
      congr 1
      exact ih h2 hm
theorem sorted_nodup {fs : List Int} (h : fs.Pairwise (· < ·)) : fs.Nodup := h.imp (fun {a b} (hlt : a < b) => by omega)

/-- All files' sectors together are all sectors. -/
def total (fs : List Int) (l : List Cl) : Nat := (fs.map fun f => (rows f l).length).sum
theorem total_nil (fs : List Int) : total fs [] = 0 := by
  induction fs with
  | nil => rfl
  | cons f fs ih => unfold total at *; rw [List.map_cons, List.sum_cons, ih]; rfl
theorem total_cons (fs : List Int) (c : Cl) (l : List Cl) (hn : fs.Nodup) : total fs (c :: l) = total fs l + if c.file ∈ fs then 1 else 0 := by
  induction fs with
  | nil => simp [total]
  | cons f fs ih =>
    obtain ⟨h1, h2⟩ := List.nodup_cons.1 hn
    have ih := ih h2
    have e : ∀ l, total (f :: fs) l = (rows f l).length + total fs l := fun l => by simp [total]
    rw [e, e, ih, rows_cons]
    by_cases hc : c.file = f
    · have : ¬ c.file ∈ fs := fun hm => h1 (hc ▸ hm)
      subst hc
      simp [h1]; omega
    · by_cases hm : c.file ∈ fs <;> simp [hc, hm] <;> omega
theorem total_all (fs : List Int) (l : List Cl) (hn : fs.Nodup) (h : ∀ c ∈ l, c.file ∈ fs) : total fs l = l.length := by
  induction l with
  | nil => exact total_nil fs
  | cons c l ih => rw [total_cons fs c l hn, ih (fun x hx => h x (by simp [hx])), if_pos (h c (by simp))]; rfl
theorem total_perm {a b : List Int} (h : a.Perm b) (l : List Cl) : total a l = total b l := (h.map _).sum_nat
theorem le_total (fs : List Int) (l : List Cl) (h : ∀ f ∈ fs, 0 < (rows f l).length) : fs.length ≤ total fs l := by
  induction fs with
  | nil => simp
  | cons f fs ih =>
    have h1 := h f (by simp)
    have h2 := ih (fun g hg => h g (by simp [hg]))
    have e : total (f :: fs) l = (rows f l).length + total fs l := by simp [total]
    rw [List.length_cons, e]; omega

namespace Inv
variable {m : M}
theorem nodup (h : Inv m) : m.files.Nodup := sorted_nodup h.sorted
theorem total (h : Inv m) : total m.files m.l = m.l.length := total_all _ _ h.nodup fun c hc => (h.here _).2 ⟨c, hc, rfl⟩
theorem pos (h : Inv m) {f : Int} (hf : f ∈ m.files) : 0 < (rows f m.l).length := by
  obtain ⟨c, hc, e⟩ := (h.here f).1 hf
  unfold rows
  rw [List.length_map]
  exact List.length_pos_iff.2 fun hn => by have := List.filter_eq_nil_iff.1 hn c hc; simp [e] at this
theorem few (h : Inv m) : m.files.length ≤ 1000 := by
  have h1 := le_total m.files m.l fun f hf => h.pos hf
  rw [h.total] at h1
  have := h.most; have := h.room; omega
theorem rows_le (h : Inv m) (f : Int) : (rows f m.l).length ≤ 1000 := by
  have := rows_len f m.l; have := h.most; have := h.room; omega
theorem r512 (h : Inv m) (f : Int) : ∀ x ∈ rows f m.l, x.b.length = 512 := rows_512 h.len f
theorem none_ (h : Inv m) {f : Int} (hf : f ∉ m.files) : rows f m.l = [] := rows_none fun hx => hf ((h.here f).2 hx)

theorem new (r : Nat) (h1 : 1 ≤ r) (h2 : r ≤ 1000) : Inv ⟨r, [], [], false, none⟩ :=
  ⟨List.Pairwise.nil, by simp, by simp, by simp, ⟨h1, h2⟩, by simp, by simp⟩
theorem lost (h : Inv m) (keep : List Bool) : Inv (lost m keep) := by
  have hf := foldl_file keep m.files (0, m.l)
  refine ⟨h.sorted, fun f => (h.here f).trans ?_, foldl_512 keep m.files (0, m.l) h.len, ?_, h.room, h.fit, by simp [Disk.lost]⟩
  · have e : ∀ l : List Cl, (∃ c ∈ l, c.file = f) ↔ f ∈ l.map (·.file) := fun l => by simp
    rw [e, e]
    show f ∈ m.l.map (·.file) ↔ f ∈ (m.files.foldl (pstep keep) (0, m.l)).2.map (·.file)
    rw [hf]
  · show (passes keep m.files m.l).2.length ≤ m.room
    rw [(passes_bound keep m.files m.l).2]; exact h.most
theorem crash (h : Inv m) (keep : List Bool) : Inv (crash m keep) := by
  unfold Disk.crash; split
  · exact h
  · exact h.lost keep
theorem stepped (h : Inv m) : Inv (stepped m) := by
  unfold Disk.stepped
  split
  · exact h.lost _
  · rename_i n k e
    exact ⟨h.sorted, h.here, h.len, h.most, h.room, h.fit, fun a b e' => by have := h.plan _ _ e; simp at e'; omega⟩
  · exact h
theorem up (h : Inv m) : Inv (up m) := ⟨h.sorted, h.here, h.len, h.most, h.room, h.fit, h.plan⟩
theorem fail (h : Inv m) (s : Int) (hs : s < 9223372036854775808) (keep : List Bool) : Inv (fail m s keep) :=
  ⟨h.sorted, h.here, h.len, h.most, h.room, h.fit, fun a b e => by
    unfold Disk.fail at e
    simp only at e
    split at e
    · cases e
    · cases e; omega⟩
end Inv
theorem stepped_same {m : M} (h : fails m = false) : (stepped m).files = m.files ∧ (stepped m).l = m.l ∧ (stepped m).room = m.room ∧ (stepped m).off = m.off := by
  unfold fails at h
  unfold stepped
  split
  · rename_i e; rw [e] at h; cases h
  · exact ⟨rfl, rfl, rfl, rfl⟩
  · exact ⟨rfl, rfl, rfl, rfl⟩
namespace Inv
variable {m : M}
theorem append (h : Inv m) (f : Int) (hf : f < 9223372036854775808) (b : List (BitVec 8)) : Inv (append m f b).2 := by
  unfold Disk.append
  by_cases h1 : m.off
  · simp [h1]; exact h
  by_cases h2 : f < 0 ∨ b.length ≠ 512
  · rw [if_neg h1, if_pos h2]; exact h
  by_cases h3 : m.room ≤ m.l.length ∨ 200 ≤ (rows f m.l).length
  · rw [if_neg h1, if_neg h2, if_pos h3]; exact h
  cases h4 : fails m
  · rw [if_neg h1, if_neg h2, if_neg h3]
    obtain ⟨e1, e2, e3, e4⟩ := stepped_same h4
    have hs := h.stepped
    simp only [Bool.false_eq_true, if_false]
    refine ⟨sorted_add f _ h.sorted, fun g => ?_, ?_, ?_, hs.room, ?_, hs.plan⟩
    · show g ∈ add f m.files ↔ ∃ c ∈ m.l ++ [(⟨f, b, false⟩ : Cl)], c.file = g
      rw [mem_add, h.here]
      constructor
      · rintro (rfl | ⟨c, hc, e⟩)
        · exact ⟨⟨g, b, false⟩, by simp, rfl⟩
        · exact ⟨c, by simp [hc], e⟩
      · rintro ⟨c, hc, e⟩
        rcases List.mem_append.1 hc with hc | hc
        · exact .inr ⟨c, hc, e⟩
        · rw [List.mem_singleton.1 hc] at e; exact .inl e.symm
    · intro c hc
      rcases List.mem_append.1 hc with hc | hc
      · exact h.len c hc
      · rw [List.mem_singleton.1 hc]; show b.length = 512; omega
    · show (m.l ++ [(⟨f, b, false⟩ : Cl)]).length ≤ (Disk.stepped m).room
      rw [e3]; simp; omega
    · intro g hg
      rcases (mem_add f g m.files).1 hg with rfl | hg
      · omega
      · exact h.fit g hg
  · rw [if_neg h1, if_neg h2, if_neg h3]
    simp only [if_true]
    exact h.stepped
theorem sync (h : Inv m) (f : Int) : Inv (sync m f).2 := by
  unfold Disk.sync
  by_cases h1 : there m f ≠ 0
  · rw [if_pos h1]; exact h
  rw [if_neg h1]
  cases h4 : fails m
  · obtain ⟨e1, e2, e3, e4⟩ := stepped_same h4
    have hs := h.stepped
    simp only [Bool.false_eq_true, if_false]
    refine ⟨hs.sorted, fun g => ?_, fun c hc => ?_, ?_, hs.room, hs.fit, hs.plan⟩
    · show g ∈ (Disk.stepped m).files ↔ ∃ c ∈ syncL f m.l, c.file = g
      rw [e1, h.here]
      unfold syncL
      constructor
      · rintro ⟨c, hc, e⟩
        exact ⟨_, List.mem_map.2 ⟨c, hc, rfl⟩, by split <;> exact e⟩
      · rintro ⟨c, hc, e⟩
        obtain ⟨c', hc', rfl⟩ := List.mem_map.1 hc
        refine ⟨c', hc', ?_⟩
        split at e <;> exact e
    · obtain ⟨c', hc', rfl⟩ := List.mem_map.1 hc
      have := h.len c' hc'
      split <;> exact this
    · show (syncL f m.l).length ≤ (Disk.stepped m).room
      rw [e3]; simp [syncL]; exact h.most
  · simp only [if_true]; exact h.stepped
theorem remove (h : Inv m) (f : Int) : Inv (remove m f).2 := by
  unfold Disk.remove
  by_cases h1 : there m f ≠ 0
  · rw [if_pos h1]; exact h
  rw [if_neg h1]
  cases h4 : fails m
  · obtain ⟨e1, e2, e3, e4⟩ := stepped_same h4
    have hs := h.stepped
    simp only [Bool.false_eq_true, if_false]
    refine ⟨sorted_without f _ h.sorted, fun g => ?_, fun c hc => h.len c (List.mem_filter.1 hc).1, ?_, hs.room, fun g hg => h.fit g ((mem_without f g _).1 hg).1, hs.plan⟩
    · show g ∈ without f m.files ↔ ∃ c ∈ dropL f m.l, c.file = g
      rw [mem_without, h.here]
      unfold dropL
      constructor
      · rintro ⟨⟨c, hc, rfl⟩, hne⟩
        exact ⟨c, List.mem_filter.2 ⟨hc, by simp [hne]⟩, rfl⟩
      · rintro ⟨c, hc, rfl⟩
        obtain ⟨h5, h6⟩ := List.mem_filter.1 hc
        exact ⟨⟨c, h5, rfl⟩, by simpa using h6⟩
    · show (dropL f m.l).length ≤ (Disk.stepped m).room
      rw [e3]; exact Nat.le_trans (List.length_filter_le _ _) h.most
  · simp only [if_true]; exact h.stepped
theorem rename (h : Inv m) (f t : Int) (ht : t < 9223372036854775808) : Inv (rename m f t).2 := by
  unfold Disk.rename
  by_cases h1 : there m f ≠ 0
  · rw [if_pos h1]; exact h
  rw [if_neg h1]
  by_cases h2 : t < 0
  · rw [if_pos h2]; exact h
  rw [if_neg h2]
  cases h4 : fails m
  · obtain ⟨e1, e2, e3, e4⟩ := stepped_same h4
    have hs := h.stepped
    simp only [Bool.false_eq_true, if_false]
    by_cases h5 : f = t
    · rw [if_pos h5]; exact hs
    rw [if_neg h5]
    have hf : f ∈ m.files := by
      unfold there at h1
      by_cases hf : f ∈ m.files
      · exact hf
      · exfalso; revert h1; split <;> simp [hf]
    refine ⟨sorted_without f _ (sorted_add t _ h.sorted), fun g => ?_, fun c hc => ?_, ?_, hs.room, fun g hg => ?_, hs.plan⟩
    · show g ∈ without f (add t m.files) ↔ ∃ c ∈ moveL f t (dropL t m.l), c.file = g
      rw [mem_without, mem_add, h.here]
      unfold moveL dropL
      constructor
      · rintro ⟨rfl | ⟨c, hc, rfl⟩, hne⟩
        · obtain ⟨c, hc, e⟩ := (h.here f).1 hf
          exact ⟨_, List.mem_map.2 ⟨c, List.mem_filter.2 ⟨hc, by simp [e, h5]⟩, rfl⟩, by simp [e]⟩
        · by_cases hct : c.file = t
          · obtain ⟨c', hc', e⟩ := (h.here f).1 hf
            exact ⟨_, List.mem_map.2 ⟨c', List.mem_filter.2 ⟨hc', by simp [e, h5]⟩, rfl⟩, by simp [e, hct]⟩
          · exact ⟨_, List.mem_map.2 ⟨c, List.mem_filter.2 ⟨hc, by simp [hct]⟩, rfl⟩, by simp [hne]⟩
      · rintro ⟨c, hc, e⟩
        obtain ⟨c', hc', rfl⟩ := List.mem_map.1 hc
        obtain ⟨h6, h7⟩ := List.mem_filter.1 hc'
        by_cases h8 : c'.file = f
        · rw [if_pos h8] at e
          exact ⟨.inl e.symm, by rw [← e]; exact Ne.symm h5⟩
        · rw [if_neg h8] at e
          exact ⟨.inr ⟨c', h6, e⟩, by rw [← e]; exact h8⟩
    · obtain ⟨c', hc', rfl⟩ := List.mem_map.1 hc
      have := h.len c' (List.mem_filter.1 hc').1
      split <;> exact this
    · show (moveL f t (dropL t m.l)).length ≤ (Disk.stepped m).room
      rw [e3]; simp only [moveL, List.length_map]; exact Nat.le_trans (List.length_filter_le _ _) h.most
    · rcases (mem_add t g m.files).1 ((mem_without f g _).1 hg).1 with rfl | hg
      · omega
      · exact h.fit g hg
  · simp only [if_true]; exact h.stepped
end Inv
end Go.Proofs.Ytkoaelpmknaakaa.Disk
