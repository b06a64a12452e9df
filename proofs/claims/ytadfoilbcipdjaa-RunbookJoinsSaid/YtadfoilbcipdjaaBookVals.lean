/-
  Layer 12 (runbook): strings and their bytes; tokens, arms and steps as cells.
-/
import Derived.Test.YtadfoilbcipdjaaBookShift
import Derived.Test.YtadfoilbcipdjaaLexSame
namespace Go.Proofs.Ytadfoilbcipdjaa.Book
open Go.RowKit
open Go.Proofs.Ytadfoilbcipdjaa.Lex (Tok Tk B cut Tv Tx tflat)
set_option linter.unusedVariables false
set_option linter.unusedSimpArgs false

theorem str_toList (a : List (BitVec 8)) : (str a).toList = a.map UInt8.ofBitVec := by rw [ByteArray.toList_eq]; simp [str]
theorem ofBV_inj {x y : BitVec 8} (h : UInt8.ofBitVec x = UInt8.ofBitVec y) : x = y := by have := congrArg UInt8.toBitVec h; simpa using this
theorem map_inj : ∀ {a b : List (BitVec 8)}, a.map UInt8.ofBitVec = b.map UInt8.ofBitVec → a = b
  | [], [], _ => rfl
  | [], _ :: _, h => by simp at h
  | _ :: _, [], h => by simp at h
  | x :: a, y :: b, h => by
    simp only [List.map_cons, List.cons.injEq] at h
    rw [ofBV_inj h.1, map_inj h.2]
theorem str_beq (a b : List (BitVec 8)) : ((str a).toList == (str b).toList) = decide (a = b) := by
  rw [str_toList, str_toList]
  by_cases h : a = b
  · subst h; simp
  · rw [decide_eq_false h]
    exact beq_false_of_ne fun e => h (map_inj e)
def toks (vs : List Tv) : T := vs.map (·.t)
theorem toks_drop {vs : List Tv} {p : Nat} {v : Tv} (h : vs[p]? = some v) : (toks vs).drop p = v.t :: (toks vs).drop (p + 1) := by
  obtain ⟨hl, hv⟩ := List.getElem?_eq_some_iff.1 h
  have h2 : p < (vs.map (·.t)).length := by rw [List.length_map]; exact hl
  unfold toks
  rw [List.drop_eq_getElem_cons h2, List.getElem_map, hv]
theorem toks_end {vs : List Tv} {p : Nat} (h : vs.length ≤ p) : (toks vs).drop p = [] := List.drop_eq_nil_of_le (by unfold toks; rw [List.length_map]; exact h)
/-- A struct of nine cells is stored. -/
def fw9 (w : World) (g : Nat) (a b c d e f x y z : Value) : World := ((((((((w.setCell ⟨g, 0, none⟩ a).setCell ⟨g, 1, none⟩ b).setCell ⟨g, 2, none⟩ c).setCell ⟨g, 3, none⟩ d).setCell ⟨g, 4, none⟩ e).setCell ⟨g, 5, none⟩ f).setCell ⟨g, 6, none⟩ x).setCell ⟨g, 7, none⟩ y).setCell ⟨g, 8, none⟩ z
theorem fw9_cel {w : World} {g : Nat} {t : TypeId} {z0 z1 z2 z3 z4 z5 z6 z7 z8 a b c d e f x y z : Value} (h : Cel w g t [z0, z1, z2, z3, z4, z5, z6, z7, z8]) : Cel (fw9 w g a b c d e f x y z) g t [a, b, c, d, e, f, x, y, z] := ((((((((h.set 0 a).set 1 b).set 2 c).set 3 d).set 4 e).set 5 f).set 6 x).set 7 y).set 8 z
theorem fw9_frm (w : World) (g : Nat) (a b c d e f x y z : Value) : Frm [g] w (fw9 w g a b c d e f x y z) := (((((((((Frm.refl [g] w).set (p := ⟨g, 0, none⟩) (by simp) a).set (p := ⟨g, 1, none⟩) (by simp) b).set (p := ⟨g, 2, none⟩) (by simp) c).set (p := ⟨g, 3, none⟩) (by simp) d).set (p := ⟨g, 4, none⟩) (by simp) e).set (p := ⟨g, 5, none⟩) (by simp) f).set (p := ⟨g, 6, none⟩) (by simp) x).set (p := ⟨g, 7, none⟩) (by simp) y).set (p := ⟨g, 8, none⟩) (by simp) z
/-- A text that lies below B, or in a block of bytes, stays if neither is written. -/
theorem Tx.keep {w w' : World} {B : Nat} {A : Option Addr} {t : List (BitVec 8)} (h : Tx w B A t) (hk : ∀ k, k < w.heap.size → (k < B ∨ ∃ cs fz, w.heap[k]? = some (Obj.cells cs 5 fz)) → w'.heap[k]? = w.heap[k]?) : Tx w' B A t := by
  rcases h with h | h
  · refine .inl ⟨h.1, fun hn => ?_⟩
    obtain ⟨ad, e, hb, hc⟩ := h.2 hn
    have hlt : ad.block < w.heap.size := by have := cell_lt (hc 0 hn); rwa [add_block] at this
    exact ⟨ad, e, hb, fun j hj => (World.cell?_of_block (by rw [add_block]; exact hk _ hlt (.inl hb))).trans (hc j hj)⟩
  · exact .inr (By.keep h fun k cs fz hb => hk k (Array.getElem?_eq_some_iff.1 hb).1 (.inr ⟨cs, fz, hb⟩))
theorem Tx.frm {w w' : World} {B : Nat} {A : Option Addr} {t : List (BitVec 8)} {l : List Nat} (h : Tx w B A t) (hf : Frm l w w') (hl : ∀ k ∈ l, B ≤ k ∧ ∀ cs fz, w.heap[k]? ≠ some (Obj.cells cs 5 fz)) : Tx w' B A t :=
  Tx.keep h fun k hk hc => hf.block k hk fun hm => by
    obtain ⟨h1, h2⟩ := hl k hm
    rcases hc with hc | ⟨cs, fz, hc⟩
    · omega
    · exact h2 cs fz hc
/-- An arm, and where its pattern lies. -/
structure Av where
  a : Arm
  A : Option Addr
  c : Nat
def Av.cells (v : Av) : List Value := [.int .i64 (v.a.at_ : Int), .slice v.A v.a.pat.length v.c, .string (str v.a.as_), .string (str v.a.go)]
def aflat (vs : List Av) : List Value := vs.flatMap Av.cells
theorem aflat_app (us vs : List Av) : aflat (us ++ vs) = aflat us ++ aflat vs := by simp [aflat]
theorem Av.one (v : Av) : ∀ u ∈ v.cells, u.oneCell' = true := by
  intro u hu
  simp [Av.cells] at hu
  rcases hu with rfl | rfl | rfl | rfl <;> rfl
def zero9 : List Value := [.int .i64 0, .string ⟨#[]⟩, .int .i64 0, .bool false, .slice none 0 0, .slice none 0 0, .int .i64 0, .int .i64 0, .string ⟨#[]⟩]
def cells9 (s : Step) (A4 : Option Addr) (c4 : Nat) (A5 : Option Addr) (c5 : Nat) : List Value := [.int .i64 (s.at_ : Int), .string (str s.name), .int .i64 s.tag, .bool s.sends, .slice A4 s.send.length c4, .slice A5 s.arms.length c5, .int .i64 s.time, .int .i64 s.try_, .string (str s.els)]
/-- A step, and where its parts lie. -/
structure Bv where
  s : Step
  A4 : Option Addr
  c4 : Nat
  A5 : Option Addr
  c5 : Nat
  avs : List Av
def Bv.cells (v : Bv) : List Value := cells9 v.s v.A4 v.c4 v.A5 v.c5
def s9flat (vs : List Bv) : List Value := vs.flatMap Bv.cells
theorem s9flat_app (us vs : List Bv) : s9flat (us ++ vs) = s9flat us ++ s9flat vs := by simp [s9flat]
theorem Bv.one (v : Bv) : ∀ u ∈ v.cells, u.oneCell' = true := by
  intro u hu
  simp [Bv.cells, cells9] at hu
  rcases hu with rfl | rfl | rfl | rfl | rfl | rfl | rfl | rfl | rfl <;> rfl
/-- How the tokens are read on: the steps' result R' with what is ahead of them. -/
def asBook (most : Int) : Except T (List Step) → Except T Book
  | .error e => .error e
  | .ok ss => .ok ⟨most, ss⟩
def asText (n : Nat) : Except T Book → Except (Nat × Nat) Book
  | .error [] => .error (n, 2)
  | .error (x :: _) => .error (x.at_, 2)
  | .ok b => .ok b
theorem cut_few {s : List B} {ts : List Tok} (h : cut s = .ok ts) : ts.length ≤ 2000 := by
  obtain ⟨h1, h2⟩ := Lex.cut_alone h
  have hi : ∀ (i : Nat) (t : Tok), ts[i]? = some t → i ≤ t.at_ := by
    intro i
    induction i with
    | zero => intro t _; exact Nat.zero_le _
    | succ i ih =>
      intro t ht
      have hl := (List.getElem?_eq_some_iff.1 ht).1
      have hu : ts[i]? = some ts[i] := List.getElem?_eq_getElem (by omega)
      have h3 := ih _ hu
      have h4 := (h2 i _ hu).1
      unfold Lex.next at h4
      rw [ht] at h4
      dsimp only at h4
      omega
  rcases Nat.eq_zero_or_pos ts.length with h0 | h0
  · omega
  · have hu : ts[ts.length - 1]? = some ts[ts.length - 1] := List.getElem?_eq_getElem (by omega)
    have h3 := hi _ _ hu
    have h4 := h2 _ _ hu
    omega
theorem bookOf_cut {s : List B} {l : T} (h : cut s = .ok l) : bookOf s = asText s.length (bookR l) := by
  unfold bookOf
  rw [h]
  dsimp only
  cases bookR l with
  | error e => cases e <;> rfl
  | ok b => rfl
end Go.Proofs.Ytadfoilbcipdjaa.Book
