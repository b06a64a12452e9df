/-
Texts: LexSame BookVals BookStepW BookParseW LexAs VarsRef VarsNames ChkRef
-/
import Derived.Test.YteohlpmojfjjdaaGreatC0
import Derived.Test.YteohlpmojfjjdaaGreatC1
import Derived.Test.YteohlpmojfjjdaaGreatC2
import Derived.Test.YteohlpmojfjjdaaGreatC3
import Derived.Test.YteohlpmojfjjdaaGreatC5
import Derived.Test.YteohlpmojfjjdaaGreatC7
import Derived.BigQuiet
set_option linter.unusedVariables false
set_option linter.unusedSimpArgs false
set_option maxRecDepth 100000
set_option maxHeartbeats 4000000
section
namespace Go.Proofs.YteohlpmojfjjdaaGreat.Lex
open Go.RowKit
theorem flat4 : ∀ (vs : List Tv) (i k : Nat) (v : Tv), vs[i]? = some v → k < 4 → (tflat vs)[i * 4 + k]? = v.cells[k]?
 | [], _, _, _, h, _ => by simp at h
 | u :: us, 0, k, v, h, hk => by
  simp at h
  subst h
  rw [tflat, List.flatMap_cons, List.getElem?_append_left (by rw [Nat.zero_mul, Nat.zero_add]; exact hk), Nat.zero_mul, Nat.zero_add]
 | u :: us, i + 1, k, v, h, hk => by
  have h1 := flat4 us i k v (by simpa using h) hk
  rw [tflat, List.flatMap_cons, List.getElem?_append_right (by show 4 ≤ _; omega)]
  rw [← h1]
  show _ = (us.flatMap Tv.cells)[i * 4 + k]?
  congr 1
  show (i + 1) * 4 + k - 4 = _
  omega
theorem add_at4 (ad : Addr) (i k : Nat) (hk : 0 < k) : (⟨(ad.add i).block, (ad.add i).off + k, none⟩ : Addr) = ad.add (i + k) := by
 rw [← add_add]
 generalize ad.add i = q
 unfold Addr.add
 rw [if_neg (by omega)]
theorem lbelow_drew {B : Nat} {w w' : World} (h : Below B w w') (m : Nat) : Below B w (w'.drewN m) := ⟨h.os, h.tape, h.output, h.size, h.block⟩
theorem Tx.bs {w : World} {B : Nat} {A : Option Addr} {t : List (BitVec 8)} (h : Tx w B A t) (hB : B ≤ w.heap.size) : Bs w w.heap.size A t.length t := by
 rcases h with h | h
 ·exact h.more hB
 ·exact h.rd
theorem Tx.str {w : World} {B : Nat} {A : Option Addr} {t : List (BitVec 8)} (h : Tx w B A t) (hB : B ≤ w.heap.size) (c m : Nat) : (convert 41 9 (.slice A t.length c)).run Tryz.prog (w.drewN m) = .ok (.string (str t)) (w.drewN m) :=
 (Bs.bp ((h.bs hB).drewN m)).string c Tryz.underlying41 Tryz.underlying5 Tryz.underlying9
end Go.Proofs.YteohlpmojfjjdaaGreat.Lex
end
section
namespace Go.Proofs.YteohlpmojfjjdaaGreat.Book
open Go.RowKit
open Lex (Tok Tk B cut Tv Tx tflat)
theorem str_toList (a : List (BitVec 8)) : (str a).toList = a.map UInt8.ofBitVec := by rw [ByteArray.toList_eq]; simp [str]
theorem ofBV_inj {x y : BitVec 8} (h : UInt8.ofBitVec x = UInt8.ofBitVec y) : x = y := by have := congrArg UInt8.toBitVec h; simpa using this
theorem map_inj : ∀ {a b : List (BitVec 8)}, a.map UInt8.ofBitVec = b.map UInt8.ofBitVec → a = b
 | [], [], _ => rfl
 | [], _ :: _, h => by simp at h
 | _ :: _, [], h => by simp at h
 | x :: a, y :: b, h => by
  simp only [List.map_cons, List.cons.injEq] at h
  rw [ofBV_inj h.1, map_inj h.2]
theorem str_beq (a b : List (BitVec 8)) : ((str a).toList == (str b).toList) = decide (a = b) := by
 rw [str_toList, str_toList]
 by_cases h : a = b
 ·subst h; simp
 ·rw [decide_eq_false h]
  exact beq_false_of_ne fun e => h (map_inj e)
def toks (vs : List Tv) : T := vs.map (·.t)
theorem Tx.keep {w w' : World} {B : Nat} {A : Option Addr} {t : List (BitVec 8)} (h : Tx w B A t) (hk : ∀ k, k < w.heap.size → (k < B ∨ ∃ cs fz, w.heap[k]? = some (Obj.cells cs 5 fz)) → w'.heap[k]? = w.heap[k]?) : Tx w' B A t := by
 rcases h with h | h
 ·refine .inl ⟨h.1, fun hn => ?_⟩
  obtain ⟨ad, e, hb, hc⟩ := h.2 hn
  have hlt : ad.block < w.heap.size := by have := cell_lt (hc 0 hn); rwa [add_block] at this
  exact ⟨ad, e, hb, fun j hj => (World.cell?_of_block (by rw [add_block]; exact hk _ hlt (.inl hb))).trans (hc j hj)⟩
 ·exact .inr (By.keep h fun k cs fz hb => hk k (Array.getElem?_eq_some_iff.1 hb).1 (.inr ⟨cs, fz, hb⟩))
theorem Tx.frm {w w' : World} {B : Nat} {A : Option Addr} {t : List (BitVec 8)} {l : List Nat} (h : Tx w B A t) (hf : Frm l w w') (hl : ∀ k ∈ l, B ≤ k ∧ ∀ cs fz, w.heap[k]? ≠ some (Obj.cells cs 5 fz)) : Tx w' B A t :=
 Tx.keep h fun k hk hc => hf.block k hk fun hm => by
  obtain ⟨h1, h2⟩ := hl k hm
  rcases hc with hc | ⟨cs, fz, hc⟩
  ·omega
  ·exact h2 cs fz hc
def Tc (w : World) (B : Nat) (A : Option Addr) (c : Nat) (t : List (BitVec 8)) : Prop := Tx w B A t ∧ t.length ≤ c
structure Av where
 a : Arm
 A : Option Addr
 c : Nat
def Av.cells (v : Av) : List Value := [.int .i64 (v.a.at_ : Int), .slice v.A v.a.pat.length v.c, .string (str v.a.as_), .string (str v.a.go)]
def aflat (vs : List Av) : List Value := vs.flatMap Av.cells
theorem aflat_app (us vs : List Av) : aflat (us ++ vs) = aflat us ++ aflat vs := by simp [aflat]
def cells9 (s : Step) (A4 : Option Addr) (c4 : Nat) (A5 : Option Addr) (c5 : Nat) : List Value := [.int .i64 (s.at_ : Int), .string (str s.name), .int .i64 s.tag, .bool s.sends, .slice A4 s.send.length c4, .slice A5 s.arms.length c5, .int .i64 s.time, .int .i64 s.try_, .string (str s.els)]
structure Bv where
 s : Step
 A4 : Option Addr
 c4 : Nat
 A5 : Option Addr
 c5 : Nat
 avs : List Av
def Bv.cells (v : Bv) : List Value := cells9 v.s v.A4 v.c4 v.A5 v.c5
def s9flat (vs : List Bv) : List Value := vs.flatMap Bv.cells
theorem s9flat_app (us vs : List Bv) : s9flat (us ++ vs) = s9flat us ++ s9flat vs := by simp [s9flat]
def asText (n : Nat) : Except T Book → Except (Nat × Nat) Book
 | .error [] => .error (n, 2)
 | .error (x :: _) => .error (x.at_, 2)
 | .ok b => .ok b
theorem cut_few {s : List B} {ts : List Tok} (h : cut s = .ok ts) : ts.length ≤ 2000 := by
 obtain ⟨h1, h2⟩ := Lex.cut_alone h
 have hi : ∀ (i : Nat) (t : Tok), ts[i]? = some t → i ≤ t.at_ := by
  intro i
  induction i with
  | zero => intro t _; exact Nat.zero_le _
  | succ i ih =>
   intro t ht
   have hl := (List.getElem?_eq_some_iff.1 ht).1
   have hu : ts[i]? = some ts[i] := List.getElem?_eq_getElem (by omega)
   have h3 := ih _ hu
   have h4 := (h2 i _ hu).1
   unfold Lex.next at h4
   rw [ht] at h4
   dsimp only at h4
   omega
 rcases Nat.eq_zero_or_pos ts.length with h0 | h0
 ·omega
 ·have hu : ts[ts.length - 1]? = some ts[ts.length - 1] := List.getElem?_eq_getElem (by omega)
  have h3 := hi _ _ hu
  have h4 := h2 _ _ hu
  omega
theorem bookOf_cut {s : List B} {l : T} (h : cut s = .ok l) : bookOf s = asText s.length (bookR l) := by
 unfold bookOf
 rw [h]
 dsimp only
 cases bookR l with
 | error e => cases e <;> rfl
 | ok b => rfl
end Go.Proofs.YteohlpmojfjjdaaGreat.Book
end
section
namespace Go.Proofs.YteohlpmojfjjdaaGreat.Book
open Go.RowKit
open Lex (Tok Tk B cut Tv Tx tflat lbelow_drew b_ne results_at3)
theorem infoArm : (Tryz.prog.info? 70).map (fun i => (i.zero, i.size, i.bytes)) = some (some (.agg #[.int .i64 0, .slice none 0 0, .string ⟨#[]⟩, .string ⟨#[]⟩]), 4, 64) := by kernel_rfl
theorem rowArm : ElemRow Tryz.prog 65 70 4 64 := ElemRow.mk' Tryz.underlying65 infoArm rfl (by decide)
section
variable {w W W' : World} {B : Nat} {s s' : Step} {A4 A4' : Option Addr} {c4 c4' : Nat} {A5 : Option Addr} {c5 : Nat} {avs : List Av}
end
end Go.Proofs.YteohlpmojfjjdaaGreat.Book
end
section
namespace Go.Proofs.YteohlpmojfjjdaaGreat.Book
open Go.RowKit
open Lex (Tok Tk B cut Tv Tx tflat lbelow_drew b_ne results_at3)
theorem infoStp : (Tryz.prog.info? 67).map (fun i => (i.zero, i.size, i.bytes)) = some (some (.agg #[.int .i64 0, .string ⟨#[]⟩, .int .i64 0, .bool false, .slice none 0 0, .slice none 0 0, .int .i64 0, .int .i64 0, .string ⟨#[]⟩]), 9, 120) := by kernel_rfl
theorem rowStp : ElemRow Tryz.prog 36 67 9 120 := ElemRow.mk' Tryz.underlying36 infoStp rfl (by decide)
theorem load_book {w : World} {g : Nat} {x0 x1 : Value} (h : Cel w g 38 [x0, x1]) : (loadVar 38 ⟨g, 0, none⟩).run Tryz.prog w = .ok (.agg #[x0, x1]) w :=
 run_loadVar_mid (P := Tryz.prog) w g 0 38 [x0, x1] _ (fun j v hv => by rw [Nat.zero_add, h.cell j, hv]) Tryz.underlying38 rfl (by kernel_rfl)
section
variable {w W W' : World} {B g : Nat} {most : Int} {A A' : Option Addr} {c c' : Nat} {vs : List Bv} {v : Bv}
end
end Go.Proofs.YteohlpmojfjjdaaGreat.Book
end
section
namespace Go.Proofs.YteohlpmojfjjdaaGreat.Lex
open Go.RowKit Go.Proofs.YteohlpmojfjjdaaGreat.Ord
def Cr (w : World) (A : Option Addr) (cs : List Value) : Prop := cs ≠ [] → ∃ ad, A = some ad ∧ ∀ j u, cs[j]? = some u → w.cell? (ad.add j) = some u
theorem cr_ry {t : TypeId} {w : World} {A : Option Addr} {cs : List Value} (h : Ry t w A cs) : Cr w A cs := fun hn => by
 obtain ⟨ad, e, _, hc⟩ := h hn
 exact ⟨ad, e, hc⟩
theorem Cr.below {w w' : World} {A : Option Addr} {cs : List Value} (h : Cr w A cs) (hb : Below w.heap.size w w') : Cr w' A cs := fun hn => by
 obtain ⟨ad, e, hc⟩ := h hn
 exact ⟨ad, e, fun j u hj => (hb.cell (cell_lt (hc j u hj))).trans (hc j u hj)⟩
structure Ptk (w : World) (B : Nat) (A : Option Addr) (vs : List Tv) : Prop where
 ry : Cr w A (tflat vs)
 tx : ∀ v ∈ vs, Tx w B v.A v.t.t.text
theorem Ptk.below {w w' : World} {B : Nat} {A : Option Addr} {vs : List Tv} (h : Ptk w B A vs) (hB : B ≤ w.heap.size) (hb : Below w.heap.size w w') : Ptk w' B A vs := ⟨h.ry.below hb, fun v hv => (h.tx v hv).below hB hb⟩
theorem Ptk.at_ {w : World} {B : Nat} {A : Option Addr} {vs : List Tv} (h : Ptk w B A vs) {i : Nat} {v : Tv} (hi : vs[i]? = some v) : ∃ ad, A = some ad ∧ w.cell? (ad.add (i * 4)) = some (.int .i64 v.t.t.kind) ∧
  w.cell? ⟨(ad.add (i * 4)).block, (ad.add (i * 4)).off + 1, none⟩ = some (.int .i64 (v.t.at_ : Int)) ∧ w.cell? ⟨(ad.add (i * 4)).block, (ad.add (i * 4)).off + 2, none⟩ = some (.int .i64 v.t.t.n) ∧ w.cell? ⟨(ad.add (i * 4)).block, (ad.add (i * 4)).off + 3, none⟩ = some (.slice v.A v.t.t.text.length v.c) := by
 have e : ∀ k, k < 4 → (tflat vs)[i * 4 + k]? = v.cells[k]? := fun k hk => flat4 vs i k v hi hk
 obtain ⟨ad, rfl, hc⟩ := h.ry (fun q => by have := e 0 (by decide); rw [q] at this; simp [Tv.cells] at this)
 exact ⟨ad, rfl, hc _ _ (e 0 (by decide)), by rw [add_at4 _ _ 1 (by decide)]; exact hc _ _ (e 1 (by decide)), by rw [add_at4 _ _ 2 (by decide)]; exact hc _ _ (e 2 (by decide)), by rw [add_at4 _ _ 3 (by decide)]; exact hc _ _ (e 3 (by decide))⟩
end Go.Proofs.YteohlpmojfjjdaaGreat.Lex
end
section
namespace Go.Proofs.YteohlpmojfjjdaaGreat.Vars
open Go.RowKit
open Lex (letter digit within b_ne drop_at Owb lit_one rowB run_cutMid bs_cut add_pos')
def more (n : Nat) (l : List B) : Nat := if n = 0 then nameR l else (l.takeWhile within).length
theorem more_go {n : Nat} {x : B} {l : List B} (h : letter x = true ∨ 0 < n ∧ within x = true) : more n (x :: l) = 1 + more (n + 1) l := by
 unfold more
 rw [if_neg (show ¬ n + 1 = 0 by omega)]
 by_cases h0 : n = 0
 ·rw [if_pos h0]
  have hl : letter x = true := by rcases h with h | h; exact h; omega
  rw [nameR_cons, if_pos hl]
 ·rw [if_neg h0]
  have hw : within x = true := by rcases h with h | h; exact Lex.letter_within h; exact h.2
  rw [List.takeWhile_cons, if_pos hw, List.length_cons, Nat.add_comm]
theorem more_no {n : Nat} {x : B} {l : List B} (h1 : letter x = false) (h2 : n = 0 ∨ within x = false) : more n (x :: l) = 0 := by
 unfold more
 by_cases h0 : n = 0
 ·rw [if_pos h0, nameR_cons, if_neg (by simp [h1])]
 ·rw [if_neg h0]
  have hw : within x = false := by rcases h2 with h | h; exact absurd h h0; exact h
  rw [List.takeWhile_cons, if_neg (by simp [hw])]; rfl
theorem more_nil (n : Nat) : more n [] = 0 := by unfold more; split <;> rfl
theorem name_ (w : World) (B : Nat) (A : Option Addr) (n c : Nat) (s : List (BitVec 8)) (hs : Bs w B A n s) (hn : n ≤ 100000) (p : Nat) (hp : p ≤ n) :
  Calls Tryz.prog 107 #[.slice A n c, .int .i64 (p : Int)] w fun e w' => e = .returned (.int .i64 (nameR (s.drop p) : Int)) ∧ w = w' := by
 obtain ⟨K, hK⟩ : ∃ K, K = nameR (s.drop p) := ⟨_, rfl⟩
 rw [← hK]
 have HS := Lib.hid hs
 have HSL := Lib.hid hs.len
 have HK0 := Lib.hid (show K = 0 + more 0 (s.drop (p + 0)) by rw [hK, Nat.zero_add]; rfl)
 clear hs hK
 go_enter Tryz.func107, Tryz.ntmps107
 go_wp2_with fail
 go_loopw [5] (fun v5 wr => ∃ (k : Nat), p + k ≤ n ∧ v5 = .int .i64 (k : Int) ∧ w = wr ∧ Hid (K = k + more k (s.drop (p + k)))) (fun v5 _ => n - (intOf v5).toNat)
 case atStart => exact ⟨0, by omega, rfl, rfl, HK0⟩
 case round =>
  clear HK0
  obtain ⟨k, hk, rfl, rfl, HK⟩ := hrel
  rcases Nat.lt_or_ge (p + k) n with hlt | hge
  ·obtain ⟨x, hx⟩ : ∃ x, s[p + k]? = some x := ⟨_, List.getElem?_eq_getElem (by rw [HSL.out]; exact hlt)⟩
   obtain ⟨bd, rfl, _, b0⟩ := HS.out.at_ hlt
   rw [List.getD_eq_getElem?_getD, hx] at b0
   change _ = some (v8 x) at b0
   have HGO := Lib.hid (fun (h : letter x = true ∨ 0 < k ∧ within x = true) => (show K = (k + 1) + more (k + 1) (s.drop (p + (k + 1))) by
    rw [HK.out, drop_at hx, more_go h, Nat.add_assoc p k 1]; omega))
   have HST := Lib.hid (fun (h1 : letter x = false) (h2 : k = 0 ∨ within x = false) => (show K = k by
    rw [HK.out, drop_at hx, more_no h1 h2]; rfl))
   clear hx HK
   by_cases h97 : 97 ≤ x.toNat
   ·by_cases h122 : x.toNat ≤ 122
    ·have HN := Lib.hid (HGO.out (.inl (by unfold letter; simp; omega)))
     go_wp2_with fail
     exact ⟨⟨k + 1, by omega, by rw [show ((k + 1 : Nat) : Int) = (k : Int) + 1 by omega], by trivial, HN⟩, by simp [intOf]; omega⟩
    ·have hl : letter x = false := by unfold letter; simp; omega
     have z122 : decide ((x.toNat : Int) ≤ 122) = false := by simp; omega
     have z57 : decide ((x.toNat : Int) ≤ 57) = false := by simp; omega
     have z48 : decide ((48 : Int) ≤ (x.toNat : Int)) = true := by simp; omega
     have e95 : ((x.toNat : Int) == 95) = false := b_ne (k := 95) (by decide) (by rintro rfl; simp at h97)
     have hw : within x = false := by unfold within digit; rw [hl]; simp; exact ⟨by omega, by rintro rfl; simp at h97⟩
     have HN := Lib.hid (HST.out hl (.inr hw))
     go_wp2_with fail
     all_goals (go_ret; rw [HN.out]; exact ⟨rfl, rfl⟩)
   ·have hl : letter x = false := by unfold letter; simp; omega
    by_cases h0 : k = 0
    ·have HN := Lib.hid (HST.out hl (.inl h0))
     subst h0
     rw [Nat.add_zero] at b0
     go_wp2_with fail
     go_ret
     rw [HN.out]
     exact ⟨rfl, rfl⟩
    ·have hk0 : 0 < k := by omega
     have zk : decide ((0 : Int) < (k : Int)) = true := by simp; omega
     by_cases h48 : 48 ≤ x.toNat ∧ x.toNat ≤ 57
     ·obtain ⟨h48, h57⟩ := h48
      have HN := Lib.hid (HGO.out (.inr ⟨hk0, by unfold within digit; simp; omega⟩))
      have z57 : decide ((x.toNat : Int) ≤ 57) = true := by simp; omega
      go_wp2_with fail
      exact ⟨⟨k + 1, by omega, by rw [show ((k + 1 : Nat) : Int) = (k : Int) + 1 by omega], by trivial, HN⟩, by simp [intOf]; omega⟩
     ·by_cases h95 : x = 95#8
      ·have HN := Lib.hid (HGO.out (.inr ⟨hk0, by subst h95; decide⟩))
       subst h95
       go_wp2_with fail
       exact ⟨⟨k + 1, by omega, by rw [show ((k + 1 : Nat) : Int) = (k : Int) + 1 by omega], by trivial, HN⟩, by simp [intOf]; omega⟩
      ·have hw : within x = false := by unfold within digit; rw [hl]; simp [h95]; omega
       have HN := Lib.hid (HST.out hl (.inr hw))
       have e95 : ((x.toNat : Int) == 95) = false := b_ne (k := 95) (by decide) h95
       by_cases h48' : 48 ≤ x.toNat
       ·have z57 : decide ((x.toNat : Int) ≤ 57) = false := by simp; omega
        go_wp2_with fail
        go_ret
        rw [HN.out]
        exact ⟨rfl, rfl⟩
       ·have z48 : decide ((48 : Int) ≤ (x.toNat : Int)) = false := by simp; omega
        go_wp2_with fail
        go_ret
        rw [HN.out]
        exact ⟨rfl, rfl⟩
  ·have HN := Lib.hid (show K = k by rw [HK.out, List.drop_eq_nil_of_le (by rw [HSL.out]; exact hge), more_nil]; rfl)
   go_wp2_with fail
   go_ret
   rw [HN.out]
   exact ⟨rfl, rfl⟩
end Go.Proofs.YteohlpmojfjjdaaGreat.Vars
end
section
namespace Go.Proofs.YteohlpmojfjjdaaGreat.Vars
open Go.RowKit
open Lex (letter digit within b_ne drop_at Owb lit_one rowB run_cutMid bs_cut add_pos')
theorem infoStr : (Tryz.prog.info? 9).map (fun i => (i.zero, i.size, i.bytes)) = some (some (.string ByteArray.empty), 1, 16) := by kernel_rfl
theorem rowStr : ElemRow Tryz.prog 28 9 1 16 := ElemRow.mk' Tryz.underlying28 infoStr rfl (by decide)
def scell (n : List (BitVec 8)) : Value := .string (str n)
def Ons (w : World) (D : Nat) (A : Option Addr) (n c : Nat) (ns : List (List (BitVec 8))) : Prop := w.ownsRow D 9 1 (.slice A n c) n (ns.map scell)
theorem Ons.len {w : World} {D n c : Nat} {A : Option Addr} {ns : List (List (BitVec 8))} (h : Ons w D A n c ns) : ns.length = n := by have := h.1; simpa using this
theorem Ons.nil_ (w : World) (D : Nat) : Ons w D none 0 0 [] := World.ownsRow_nil _ _ _ _
theorem Ons.below {w w' : World} {D n c : Nat} {A : Option Addr} {ns : List (List (BitVec 8))} (h : Ons w D A n c ns) (hb : Below w.heap.size w w') : Ons w' D A n c ns := own_frm (l := []) h (Frm.of_below hb) (by simp)
theorem Ons.grew {w w' : World} {D n c : Nat} {A : Option Addr} {ns : List (List (BitVec 8))} (h : Ons w D A n c ns) (hg : w.grownBy w' (Value.slice A n c).ownBlock) (hB : D ≤ w.heap.size) : Below D w w' :=
 ⟨hg.os, hg.tape, hg.output, hg.size, fun k hk => hg.block k (by omega) fun e => by have := own_ge h k e.symm; omega⟩
def NmSays (w : World) (r : Except Nat (List (List (BitVec 8)))) (e : Ending) (w' : World) : Prop := Below w.heap.size w w' ∧ match r with
 | .error p => e = .returned (.tuple #[.slice none 0 0, .int .i64 (p : Int)])
 | .ok ns => ∃ A' n' c', e = .returned (.tuple #[.slice A' n' c', .int .i64 (-1)]) ∧ Ons w' w.heap.size A' n' c' ns
theorem names_ (w : World) (B : Nat) (A : Option Addr) (n c : Nat) (s : List (BitVec 8)) (hs : Bs w B A n s) (hB : B ≤ w.heap.size) (hn : n ≤ 100000) (hcap : n ≤ c) :
  Calls Tryz.prog 70 #[.slice A n c] w (NmSays w (names s)) := by
 obtain ⟨T, hT⟩ : ∃ T, T = names s := ⟨_, rfl⟩
 rw [← hT]
 have HS := Lib.hid hs
 have hsl := hs.len
 have HSL := Lib.hid hsl
 have HK0 := Lib.hid (show ∀ f, n - 0 < f → T = nadd [] (namesR f 0 (s.drop 0)) from fun f hf => by rw [nadd_nil, hT, List.drop_zero]; exact namesR_fuel _ _ _ _ (by omega) (by omega))
 clear hs hsl hT
 go_enter Tryz.func70, Tryz.ntmps70
 go_wp2_with fail
 go_loopw [4, 5] (fun v4 v5 wr => ∃ (q m c4 : Nat) (A4 : Option Addr) (o : List (List (BitVec 8))), q ≤ n ∧ m ≤ q ∧ v5 = .int .i64 (q : Int) ∧ v4 = .slice A4 m c4 ∧ Ons wr w.heap.size A4 m c4 o ∧ Below w.heap.size w wr ∧ Hid (∀ f, n - q < f → T = nadd o (namesR f q (s.drop q)))) (fun _ v5 _ => n - (intOf v5).toNat)
 case atStart => exact ⟨0, 0, 0, none, [], Nat.zero_le _, Nat.le_refl _, rfl, rfl, Ons.nil_ _ _, Below.refl _ _, HK0⟩
 case round =>
  clear HK0
  obtain ⟨q, m, c4, A4, o, hq, hmq, rfl, rfl, ho, hb, HK⟩ := hrel
  obtain ⟨W0, rfl⟩ : ∃ W0, W0 = wr := ⟨_, rfl⟩
  have HO := Lib.hid ho
  have HBW := Lib.hid hb
  have hws := hb.size
  clear ho hb
  rcases Nat.lt_or_ge q n with hlt | hge
  ·obtain ⟨x, hx⟩ : ∃ x, s[q]? = some x := ⟨_, List.getElem?_eq_getElem (by rw [HSL.out]; exact hlt)⟩
   have HSW := Lib.hid (HS.out.below (HBW.out.mono hB))
   obtain ⟨bd, rfl, _, b0⟩ := HSW.out.at_ hlt
   rw [List.getD_eq_getElem?_getD, hx] at b0
   change _ = some (v8 x) at b0
   have HX := Lib.hid hx
   clear hx
   by_cases h36 : x = 36#8
   ·have con := name_ W0 B (some bd) n c s HSW.out hn (q + 1) (by omega)
    rw [show ((q + 1 : Nat) : Int) = (q : Int) + 1 by omega] at con
    have hlen : (s.drop (q + 1)).length = n - (q + 1) := by rw [List.length_drop, HSL.out]
    have hnl := nameR_le (s.drop (q + 1))
    rw [hlen] at hnl
    have HD := Lib.hid (show s.drop q = 36#8 :: s.drop (q + 1) by rw [← h36]; exact drop_at HX.out)
    obtain ⟨k, hk⟩ : ∃ k, k = nameR (s.drop (q + 1)) := ⟨_, rfl⟩
    have HKK := Lib.hid hk
    rw [← hk] at con hnl
    subst h36
    clear hk hlen
    by_cases hk0 : k = 0
    ·subst hk0
     rcases Nat.lt_or_ge (q + 1) n with hlt2 | hge2
     ·obtain ⟨y, hy⟩ : ∃ y, s[q + 1]? = some y := ⟨_, List.getElem?_eq_getElem (by rw [HSL.out]; exact hlt2)⟩
      obtain ⟨bd2, hbd, _, b1⟩ := HSW.out.at_ hlt2
      cases hbd
      rw [List.getD_eq_getElem?_getD, hy, add_pos' bd (q + 1) (by omega)] at b1
      change _ = some (v8 y) at b1
      have HY := Lib.hid hy
      clear hy
      by_cases hy36 : y = 36#8
      ·have HN := Lib.hid (show ∀ f, n - (q + 2) < f → T = nadd o (namesR f (q + 2) (s.drop (q + 2))) from fun f hf => by
        have := HK.out (f + (n - q) + 1) (by omega)
        rw [HD.out, drop_at HY.out, hy36, namesR_two] at this
        rw [this]
        congr 1
        exact namesR_fuel _ _ _ _ (by rw [List.length_drop, HSL.out]; omega) (by rw [List.length_drop, HSL.out]; omega))
       subst hy36
       clear HK
       go_wp2_with fail
       refine con.mono ?_
       rintro e w' ⟨rfl, rfl⟩
       go_wp2_with fail
       exact ⟨⟨q + 2, m, c4, A4, o, by omega, by omega, by rw [show ((q + 2 : Nat) : Int) = (q : Int) + 2 by omega], rfl, HO.out, HBW.out, HN⟩, by simp [intOf]; omega⟩
      ·have HN := Lib.hid (show T = .error q by
        have := HK.out (n - q + 1) (by omega)
        rw [HD.out, drop_at HY.out, namesR_bad (by rw [← drop_at HY.out]; exact HKK.out.symm) hy36] at this
        exact this)
       have e36 : ((y.toNat : Int) == 36) = false := b_ne (k := 36) (by decide) hy36
       clear HK hy36
       go_wp2_with fail
       refine con.mono ?_
       rintro e w' ⟨rfl, rfl⟩
       go_wp2_with fail
       go_ret2
       rw [HN.out]
       exact ⟨HBW.out, rfl⟩
     ·have HN := Lib.hid (show T = .error q by
       have := HK.out (n - q + 1) (by omega)
       rw [HD.out, List.drop_eq_nil_of_le (by rw [HSL.out]; exact hge2), namesR_none rfl] at this
       exact this)
      clear HK
      go_wp2_with fail
      refine con.mono ?_
      rintro e w' ⟨rfl, rfl⟩
      go_wp2_with fail
      go_ret2
      rw [HN.out]
      exact ⟨HBW.out, rfl⟩
    ·have ek0 : ((k : Int) == 0) = false := by simp; omega
     by_cases h20 : 20 < k
     ·have HN := Lib.hid (show T = .error q by
       have := HK.out (n - q + 1) (by omega)
       rw [HD.out, namesR_long (by rw [← HKK.out]; exact hk0) (by rw [← HKK.out]; exact h20)] at this
       exact this)
      clear HK
      go_wp2_with fail
      refine con.mono ?_
      rintro e w' ⟨rfl, rfl⟩
      go_wp2_with fail
      go_ret2
      rw [HN.out]
      exact ⟨HBW.out, rfl⟩
     ·obtain ⟨nm, hnm⟩ : ∃ nm, nm = (s.drop (q + 1)).take k := ⟨_, rfl⟩
      have HN := Lib.hid (show ∀ f, n - (q + 1 + k) < f → T = nadd (o ++ [nm]) (namesR f (q + 1 + k) (s.drop (q + 1 + k))) from fun f hf => by
       have := HK.out (f + (n - q) + 1) (by omega)
       rw [HD.out, namesR_go (by rw [← HKK.out]; exact hk0) (by rw [← HKK.out]; exact h20), ← HKK.out, nadd_nadd, List.drop_drop] at this
       rw [this, hnm]
       congr 1
       exact namesR_fuel _ _ _ _ (by rw [List.length_drop, HSL.out]; omega) (by rw [List.length_drop, HSL.out]; omega))
      obtain ⟨st, hst⟩ : ∃ st, st = str nm := ⟨_, rfl⟩
      obtain ⟨Bc, d, dc, hcut⟩ : ∃ (Bc : Option Addr) (d dc : Nat), (∀ V, (Instr.sliceAt 41 (.slice (some bd) n c) (some (.int .i64 ((q : Int) + 1))) (some (.int .i64 ((q : Int) + 1 + (k : Int)))) none).run Tryz.prog V = .ok (.slice Bc d dc) V) ∧ (∀ V : World, Bs V B (some bd) n s → (convert 41 9 (.slice Bc d dc)).run Tryz.prog V = .ok (.string st) V) :=
       ⟨_, _, _, fun V => by rw [show (q : Int) + 1 + (k : Int) = ((q + 1 + k : Nat) : Int) by omega, show (q : Int) + 1 = ((q + 1 : Nat) : Int) by omega]; exact run_cutMid (size := 1) V Tryz.underlying41 (by kernel_rfl) (some bd) n c (q + 1) (q + 1 + k) .i64 .i64 (by omega) (by omega), fun V hV => by
        have hb := bs_cut hV (show q + 1 ≤ q + 1 + k by omega) (by omega) hcap
        rw [List.drop_take, show q + 1 + k - (q + 1) = k by omega, ← hnm] at hb
        have := (Bs.bp hb).string (c - (q + 1)) (P := Tryz.prog) (src := 41) (dst := 9) Tryz.underlying41 Tryz.underlying5 Tryz.underlying9
        rw [show q + 1 + k - (q + 1) = k by omega, hst]
        exact this⟩
      have HCUT := Lib.hid hcut
      have hcv := hcut.2 W0 HSW.out
      have hbA : Below W0.heap.size W0 (W0.alloc (.cells #[.string st] 9)) := (Below.refl _ _).alloc (Nat.le_refl _) _
      have HOA := Lib.hid (HO.out.below hbA)
      have HBA := Lib.hid (HBW.out.trans (hbA.mono hws))
      have HSRC := Lib.hid (Ry.src (m := 1) (Ry.of_cel (Cel.new W0 9 [.string st])) (by simp))
      have h1c : ∀ u ∈ [Value.string st], u.oneCell' = true := by intro u hu; rw [List.mem_singleton.1 hu]; rfl
      have HSV := Lib.hid (show scell nm = .string st by rw [hst]; rfl)
      have hBA := HBA.out.size
      clear hcut hbA HK hnm HKK hst
      go_wp2_with fail
      refine con.mono ?_
      clear con
      rintro e w' ⟨rfl, rfl⟩
      go_wp2_with (first
       | (refine wpList_slice rfl 41 (.tmp 45) (some (.tmp 47)) (some (.tmp 51)) none rfl (.slice Bc d dc) ?_ ?_; exact HCUT.out.1 _)
       | (at_builtin; refine wpList_append_any _ rfl _ _ 28 rfl w.heap.size 9 rowStr (.slice A4 m c4) m (o.map scell) rfl HOA.out (some ⟨W0.heap.size, 0, none⟩) 1 1 [.string st] rfl rfl HSRC.out h1c (m + 1) _ rfl rfl (by unfold maxLen; omega) (by omega) hBA ?_; intro A8 c8 w8 ho8 hg8 _; have HB8 := Lib.hid (HBA.out.trans (HOA.out.grew hg8 hBA)); have HO8 := Lib.hid (show Ons w8 w.heap.size A8 (m + 1) c8 (o ++ [nm]) by unfold Ons; rw [List.map_append, List.map_cons, List.map_nil, HSV.out]; exact ho8); clear ho8 hg8))
      exact ⟨⟨q + 1 + k, m + 1, c8, A8, _, by omega, by omega, by rw [show ((q + 1 + k : Nat) : Int) = (q : Int) + 1 + (k : Int) by omega], rfl, HO8.out, HB8.out, HN⟩, by simp [intOf]; omega⟩
   ·have HN := Lib.hid (show ∀ f, n - (q + 1) < f → T = nadd o (namesR f (q + 1) (s.drop (q + 1))) from fun f hf => by
     have := HK.out (f + (n - q) + 1) (by omega)
     rw [drop_at HX.out, namesR_plain h36] at this
     rw [this]
     congr 1
     exact namesR_fuel _ _ _ _ (by rw [List.length_drop, HSL.out]; omega) (by rw [List.length_drop, HSL.out]; omega))
    have e36 : ((x.toNat : Int) == 36) = false := b_ne (k := 36) (by decide) h36
    have n36 : ((x.toNat : Int) != 36) = true := by unfold bne; rw [e36]; rfl
    clear HK h36
    go_wp2_with fail
    exact ⟨⟨q + 1, m, c4, A4, o, by omega, by omega, by rw [show ((q + 1 : Nat) : Int) = (q : Int) + 1 by omega], rfl, HO.out, HBW.out, HN⟩, by simp [intOf]; omega⟩
  ·obtain rfl : q = n := by omega
   have HN := Lib.hid (show T = .ok o by
    have := HK.out 1 (by omega)
    rw [List.drop_eq_nil_of_le (by rw [HSL.out]; exact Nat.le_refl _), namesR_nil] at this
    rw [this]; simp [nadd])
   clear HK
   go_wp2_with fail
   go_ret2
   rw [HN.out]
   exact ⟨HBW.out, A4, m, c4, rfl, HO.out⟩
end Go.Proofs.YteohlpmojfjjdaaGreat.Vars
end
section
namespace Go.Proofs.YteohlpmojfjjdaaGreat.Chk
open Go.RowKit
open Lex (Tx Cr cr_ry)
open Vars (scell)
open Book (str_beq)
structure Ga where
 g : GArm
 A : Option Addr
 c : Nat
def Ga.cells (v : Ga) : List Value := [.int .i64 v.g.at_, .slice v.A v.g.pat.length v.c, .string (str v.g.as_), .string (str v.g.go)]
def gaflat (vs : List Ga) : List Value := vs.flatMap Ga.cells
structure Gs where
 g : GStep
 A4 : Option Addr
 c4 : Nat
 A5 : Option Addr
 c5 : Nat
 avs : List Ga
def Gs.cells (v : Gs) : List Value := [.int .i64 v.g.at_, .string (str v.g.name), .int .i64 v.g.tag, .bool v.g.sends, .slice v.A4 v.g.send.length v.c4, .slice v.A5 v.g.arms.length v.c5, .int .i64 v.g.time, .int .i64 v.g.try_, .string (str v.g.els)]
def gsflat (vs : List Gs) : List Value := vs.flatMap Gs.cells
structure Gbk (w : World) (B : Nat) (A : Option Addr) (vs : List Gs) : Prop where
 ry : Cr w A (gsflat vs)
 send : ∀ v ∈ vs, Tx w B v.A4 v.g.send
 arms : ∀ v ∈ vs, Cr w v.A5 (gaflat v.avs) ∧ v.avs.map (·.g) = v.g.arms
 pats : ∀ v ∈ vs, ∀ u ∈ v.avs, Tx w B u.A u.g.pat
theorem Gbk.below {w w' : World} {B : Nat} {A : Option Addr} {vs : List Gs} (h : Gbk w B A vs) (hB : B ≤ w.heap.size) (hb : Below w.heap.size w w') : Gbk w' B A vs :=
 ⟨h.ry.below hb, fun v hv => (h.send v hv).below hB hb, fun v hv => ⟨(h.arms v hv).1.below hb, (h.arms v hv).2⟩, fun v hv u hu => (h.pats v hv u hu).below hB hb⟩
theorem flat_at {α : Type} (f : α → List Value) (m : Nat) (hm : ∀ x, (f x).length = m) : ∀ (vs : List α) (i k : Nat) (v : α), vs[i]? = some v → k < m → (vs.flatMap f)[i * m + k]? = (f v)[k]?
 | [], _, _, _, h, _ => by simp at h
 | u :: us, 0, k, v, h, hk => by
  simp at h
  subst h
  rw [List.flatMap_cons, List.getElem?_append_left (by rw [hm]; omega), Nat.zero_mul, Nat.zero_add]
 | u :: us, i + 1, k, v, h, hk => by
  have h1 := flat_at f m hm us i k v (by simpa using h) hk
  rw [List.flatMap_cons, List.getElem?_append_right (by rw [hm]; have := Nat.le_add_left m (i * m); rw [Nat.succ_mul]; omega), hm, ← h1]
  congr 1
  rw [Nat.succ_mul]; omega
theorem add_at9 (ad : Addr) (i k : Nat) (hk : 0 < k) : (⟨(ad.add i).block, (ad.add i).off + k, none⟩ : Addr) = ad.add (i + k) := Lex.add_at4 ad i k hk
theorem Gbk.cell {w : World} {B : Nat} {A : Option Addr} {vs : List Gs} (h : Gbk w B A vs) {i : Nat} {v : Gs} (hi : vs[i]? = some v) : ∃ ad, A = some ad ∧ ∀ k u, v.cells[k]? = some u → w.cell? (ad.add (i * 9 + k)) = some u := by
 have e : ∀ k, k < 9 → (gsflat vs)[i * 9 + k]? = v.cells[k]? := fun k hk => flat_at Gs.cells 9 (fun _ => rfl) vs i k v hi hk
 obtain ⟨ad, rfl, hc⟩ := h.ry (fun q => by have := e 0 (by decide); rw [q] at this; simp [Gs.cells] at this)
 refine ⟨ad, rfl, fun k u hu => hc _ _ ?_⟩
 rw [e k (by have := (List.getElem?_eq_some_iff.1 hu).1; exact this)]
 exact hu
theorem Gbk.acell {w : World} {B : Nat} {A : Option Addr} {vs : List Gs} (h : Gbk w B A vs) {i : Nat} {v : Gs} (hi : vs[i]? = some v) {j : Nat} {a : Ga} (hj : v.avs[j]? = some a) : ∃ ad, v.A5 = some ad ∧ ∀ k u, a.cells[k]? = some u → w.cell? (ad.add (j * 4 + k)) = some u := by
 have e : ∀ k, k < 4 → (gaflat v.avs)[j * 4 + k]? = a.cells[k]? := fun k hk => flat_at Ga.cells 4 (fun _ => rfl) v.avs j k a hj hk
 obtain ⟨ad, h5, hc⟩ := (h.arms v (List.mem_of_getElem? hi)).1 (fun q => by have := e 0 (by decide); rw [q] at this; simp [Ga.cells] at this)
 refine ⟨ad, h5, fun k u hu => hc _ _ ?_⟩
 rw [e k (by have := (List.getElem?_eq_some_iff.1 hu).1; exact this)]
 exact hu
def Nms (w : World) (A : Option Addr) (ns : List (List B)) : Prop := Cr w A (ns.map scell)
theorem Nms.at_ {w : World} {A : Option Addr} {ns : List (List B)} (h : Nms w A ns) {i : Nat} {x : List B} (hi : ns[i]? = some x) : ∃ ad, A = some ad ∧ w.cell? (ad.add i) = some (.string (str x)) := by
 have e : (ns.map scell)[i]? = some (scell x) := by rw [List.getElem?_map, hi]; rfl
 obtain ⟨ad, rfl, hc⟩ := h (fun q => by rw [q] at e; simp at e)
 exact ⟨ad, rfl, hc _ _ e⟩
theorem at_ (w : World) (A : Option Addr) (n c : Nat) (ns : List (List B)) (h : Nms w A ns) (hl : ns.length = n) (hn : n ≤ 100000) (nm : List B) :
  Calls Tryz.prog 20 #[.slice A n c, .string (str nm)] w fun e w' => e = .returned (.int .i64 (atOf ns nm)) ∧ w = w' := by
 have H := Lib.hid h
 have HL := Lib.hid hl
 have HS := Lib.hid (fun x : List B => str_beq x nm)
 generalize hs' : str nm = s' at *
 clear h hl hs'
 go_enter Tryz.func20, Tryz.ntmps20
 go_wp2_with fail
 go_loopw [5] (fun v5 wr => ∃ (i : Nat), i ≤ n ∧ v5 = .int .i64 (i : Int) ∧ w = wr ∧ Hid (atOf ns nm = atF (ns.drop i) nm i)) (fun v5 _ => n - (intOf v5).toNat)
 case atStart => exact ⟨0, Nat.zero_le _, rfl, rfl, Lib.hid rfl⟩
 case round =>
  obtain ⟨i, hi, rfl, hw, HK⟩ := hrel
  obtain ⟨W0, rfl⟩ : ∃ W0, W0 = wr := ⟨_, rfl⟩
  subst hw
  rcases Nat.lt_or_ge i n with hlt | hge
  ·obtain ⟨x, hx⟩ : ∃ x, ns[i]? = some x := ⟨_, List.getElem?_eq_getElem (by rw [HL.out]; exact hlt)⟩
   obtain ⟨ad, rfl, k0⟩ := H.out.at_ hx
   have hlx : i < ns.length := by rw [HL.out]; exact hlt
   have HD := Lib.hid (show ns.drop i = x :: ns.drop (i + 1) by
    rw [List.drop_eq_getElem_cons hlx]
    have := (List.getElem?_eq_some_iff.1 hx).2
    rw [this])
   have hsx := HS.out x
   obtain ⟨sx, hsx'⟩ : ∃ sx, sx = str x := ⟨_, rfl⟩
   rw [← hsx'] at hsx k0
   clear hx hsx' hlx
   by_cases he : x = nm
   ·rw [decide_eq_true he] at hsx
    have HE := Lib.hid (show atOf ns nm = (i : Int) by rw [HK.out, HD.out, atF_hit he])
    clear he HK
    go_wp2_with fail
    go_ret
    exact ⟨by rw [HE.out]; rfl, rfl⟩
   ·rw [decide_eq_false he] at hsx
    have HK2 := Lib.hid (show atOf ns nm = atF (ns.drop (i + 1)) nm (i + 1) by rw [HK.out, HD.out, atF_miss he])
    clear he HK
    go_wp2_with fail
    exact ⟨⟨i + 1, by omega, by rw [show ((i + 1 : Nat) : Int) = (i : Int) + 1 by omega], trivial, HK2⟩, by simp [intOf]; omega⟩
  ·obtain rfl : i = n := by omega
   have HE := Lib.hid (show atOf ns nm = -1 by rw [HK.out, List.drop_eq_nil_of_le (by rw [HL.out]; exact Nat.le_refl _)]; rfl)
   go_wp2_with fail
   go_ret
   exact ⟨by rw [HE.out]; rfl, rfl⟩
end Go.Proofs.YteohlpmojfjjdaaGreat.Chk
end
