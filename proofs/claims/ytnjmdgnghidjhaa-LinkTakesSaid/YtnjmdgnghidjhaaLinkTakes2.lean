/-
Texts: PeerFew LinkBytes LinkSend PeerRules PeerPsays LinkPsays LinkPlaysW OrdersTwo PeerKnows
-/
import Derived.Test.YtnjmdgnghidjhaaLinkTakes0
import Derived.Test.YtnjmdgnghidjhaaLinkTakes1
import Derived.BigQuiet
import Derived.Deep.CutRange
import Derived.Lib.SlBytesConst
import Derived.Deep.MidRow
set_option linter.unusedVariables false
set_option linter.unusedSimpArgs false
set_option maxRecDepth 100000
set_option maxHeartbeats 4000000
namespace Go.Proofs.Ytnjmdgnghidjhaa.Ord
end Go.Proofs.Ytnjmdgnghidjhaa.Ord
section
namespace Go.Proofs.Ytnjmdgnghidjhaa.Peer
open Go.RowKit
open Lex (Tx b_ne)
open Rec (Vt Tvs txt)
def LessSays (w : World) (P : Prop) (e : Ending) (w' : World) : Prop := ∃ b, e = .returned (.bool b) ∧ Below w.heap.size w w' ∧ (b = true → P)
theorem take_allP {α : Type} {l : List α} {i : Nat} {x : α} (h : l[i]? = some x) {P : α → Prop} (h1 : ∀ y ∈ l.take i, P y) (h2 : P x) : ∀ y ∈ l.take (i + 1), P y := by
 rw [List.take_add_one, h]
 intro y hy
 rcases List.mem_append.1 hy with hy | hy
 ·exact h1 y hy
 ·simp at hy; subst hy; exact h2
theorem fewRules (w : World) (T : Nat) (A : Option Addr) (n c : Nat) (vs : List Rl) (h : Rls w T A vs) (hT : T ≤ w.heap.size) (hl : vs.length = n) (hn : n ≤ maxLen) (hm : ∀ v ∈ vs, v.r.line.length ≤ maxLen ∧ v.r.out.length ≤ maxLen) :
  Calls Try.prog 5 #[.slice A n c] w (LessSays w (n ≤ 20 ∧ ∀ v ∈ vs, v.r.line.length ≤ 60 ∧ v.r.out.length ≤ 60)) := by
 unfold maxLen at hn hm
 have HR := Lib.hid h
 have HL := Lib.hid hl
 have HM := Lib.hid hm
 clear h hl hm
 go_enter Try.func5, Try.ntmps5
 go_wp2_with fail
 go_loopw [3] (fun v3 wr => ∃ (i : Nat), i ≤ n ∧ v3 = .int .i64 (i : Int) ∧ Below w.heap.size w wr ∧ Hid (∀ v ∈ vs.take i, v.r.line.length ≤ 60 ∧ v.r.out.length ≤ 60)) (fun v3 _ => n - (intOf v3).toNat)
 case atStart => exact ⟨0, Nat.zero_le _, rfl, Below.refl _ _, Lib.hid (by simp)⟩
 case round =>
  obtain ⟨i, hi, rfl, hb, HK⟩ := hrel
  obtain ⟨V, hV⟩ : ∃ V, V = wr := ⟨_, rfl⟩
  rw [← hV] at hb ⊢
  clear hV
  have HB := Lib.hid hb
  rcases Nat.lt_or_ge i n with hlt | hge
  ·obtain ⟨v, hv⟩ : ∃ v, vs[i]? = some v := ⟨_, List.getElem?_eq_getElem (by rw [HL.out]; exact hlt)⟩
   obtain ⟨ad, rfl, _, a1, a2, _⟩ := (HR.out.below hT hb) i v hv
   obtain ⟨hm1, hm2⟩ := HM.out v (List.mem_of_getElem? hv)
   obtain ⟨k1, hk1⟩ : ∃ k, k = v.r.line.length := ⟨_, rfl⟩
   obtain ⟨k2, hk2⟩ : ∃ k, k = v.r.out.length := ⟨_, rfl⟩
   rw [← hk1] at a1 hm1
   rw [← hk2] at a2 hm2
   have HN := Lib.hid (fun (h1 : k1 ≤ 60) (h2 : k2 ≤ 60) => take_allP hv (P := fun v => v.r.line.length ≤ 60 ∧ v.r.out.length ≤ 60) HK.out (by rw [← hk1, ← hk2]; exact ⟨h1, h2⟩))
   generalize v.A1 = A1 at *
   generalize v.c1 = c1 at *
   generalize v.A2 = A2 at *
   generalize v.c2 = c2 at *
   clear hb hv hk1 hk2
   by_cases h1 : 60 < k1
   ·have z1 : (60 : Int) < (k1 : Int) := by omega
    clear h1
    go_wp2_with fail
    go_ret
    exact ⟨false, rfl, HB.out, fun h => by cases h⟩
   ·have z1 : decide ((60 : Int) < (k1 : Int)) = false := by simp; omega
    by_cases h2 : 60 < k2
    ·have z2 : (60 : Int) < (k2 : Int) := by omega
     clear h1 h2
     go_wp2_with fail
     go_ret
     exact ⟨false, rfl, HB.out, fun h => by cases h⟩
    ·have z2 : decide ((60 : Int) < (k2 : Int)) = false := by simp; omega
     have HN2 := Lib.hid (HN.out (by omega) (by omega))
     clear h1 h2
     go_wp2_with fail
     exact ⟨⟨i + 1, by omega, by rw [show ((i + 1 : Nat) : Int) = (i : Int) + 1 by omega], HB.out, HN2⟩, by simp [intOf]; omega⟩
  ·have HN := Lib.hid (show ∀ v ∈ vs, v.r.line.length ≤ 60 ∧ v.r.out.length ≤ 60 from fun v hv => HK.out v (by rw [List.take_of_length_le (by rw [HL.out]; exact hge)]; exact hv))
   have zi : decide ((i : Int) < (n : Int)) = false := by simp; omega
   clear hb
   by_cases h1 : n ≤ 20
   ·have HALL := Lib.hid (And.intro h1 HN.out)
    have z1 : decide ((n : Int) ≤ 20) = true := by simp; omega
    clear h1
    go_wp2_with fail
    go_ret
    exact ⟨true, rfl, HB.out, fun _ => HALL.out⟩
   ·have z1 : decide ((n : Int) ≤ 20) = false := by simp; omega
    go_wp2_with fail
    go_ret
    exact ⟨false, rfl, HB.out, fun h => by cases h⟩
theorem clean18 (w : World) (D : Nat) (A : Option Addr) (n c : Nat) (x : List (BitVec 8)) (hx : Bs w D A n x) (hD : D ≤ w.heap.size) (hn : n ≤ 100000) :
  Calls Try.prog 19 #[.slice A n c] w fun e w' => e = .returned (.bool (cleanR x)) ∧ Below w.heap.size w w' := by
 have HX := Lib.hid hx
 have HC := Lib.hid (show cleanR x = cleanR (x.drop 0) from rfl)
 obtain ⟨q, hq⟩ : ∃ q, q = cleanR x := ⟨_, rfl⟩
 rw [← hq] at HC ⊢
 clear hx hq
 go_enter Try.func19, Try.ntmps19
 go_wp2_with fail
 go_loopw [3] (fun v3 wr => ∃ (i : Nat), i ≤ n ∧ v3 = .int .i64 (i : Int) ∧ Below w.heap.size w wr ∧ Hid (q = cleanR (x.drop i))) (fun v3 _ => n - (intOf v3).toNat)
 case atStart => exact ⟨0, Nat.zero_le _, rfl, Below.refl _ _, HC⟩
 case round =>
  clear HC
  obtain ⟨i, hi, rfl, hb, HK⟩ := hrel
  obtain ⟨V, hV⟩ : ∃ V, V = wr := ⟨_, rfl⟩
  rw [← hV] at hb ⊢
  clear hV
  have HB := Lib.hid hb
  rcases Nat.lt_or_ge i n with hlt | hge
  ·obtain ⟨y, hy⟩ : ∃ y, x[i]? = some y := ⟨_, List.getElem?_eq_getElem (by rw [HX.out.len]; exact hlt)⟩
   obtain ⟨bd, rfl, _, b0⟩ := (HX.out.below (hb.mono hD)).at_ hlt
   rw [List.getD_eq_getElem?_getD, hy] at b0
   change _ = some (v8 y) at b0
   have HN := Lib.hid (show q = (!(decide (y = 10) || decide (y = 21)) && cleanR (x.drop (i + 1))) by rw [HK.out, drop_rl hy]; rfl)
   clear hb hy
   by_cases h10 : y = 10#8
   ·subst h10
    have HE := Lib.hid (show q = false by rw [HN.out]; rfl)
    go_wp2_with fail
    go_ret
    rw [HE.out]
    exact ⟨rfl, HB.out⟩
   ·have e10 : ((y.toNat : Int) == 10) = false := b_ne (k := 10) (by decide) h10
    by_cases h21 : y = 21#8
    ·subst h21
     have HE := Lib.hid (show q = false by rw [HN.out]; rfl)
     clear h10
     go_wp2_with fail
     go_ret
     rw [HE.out]
     exact ⟨rfl, HB.out⟩
    ·have e21 : ((y.toNat : Int) == 21) = false := b_ne (k := 21) (by decide) h21
     have HE := Lib.hid (show q = cleanR (x.drop (i + 1)) by rw [HN.out, decide_eq_false (show ¬ y = (10 : B) from h10), decide_eq_false (show ¬ y = (21 : B) from h21)]; rfl)
     clear h10 h21
     go_wp2_with fail
     exact ⟨⟨i + 1, by omega, by rw [show ((i + 1 : Nat) : Int) = (i : Int) + 1 by omega], HB.out, HE⟩, by simp [intOf]; omega⟩
  ·have HE := Lib.hid (show q = true by rw [HK.out, List.drop_eq_nil_of_le (by rw [HX.out.len]; exact hge)]; rfl)
   have zi : decide ((i : Int) < (n : Int)) = false := by simp; omega
   clear hb
   go_wp2_with fail
   go_ret
   rw [HE.out]
   exact ⟨rfl, HB.out⟩
end Go.Proofs.Ytnjmdgnghidjhaa.Peer
end
section
namespace Go.Proofs.Ytnjmdgnghidjhaa.Peer
open Go.RowKit
open Lex (Owb lit_one rowB)
def BySays (w : World) (x : List B) (e : Ending) (w' : World) : Prop := ∃ A' c', e = .returned (.slice A' (x.length + 2) c') ∧ Owb w' w.heap.size A' (x.length + 2) c' (wire x) ∧ Below w.heap.size w w'
end Go.Proofs.Ytnjmdgnghidjhaa.Peer
end
section
namespace Go.Proofs.Ytnjmdgnghidjhaa.Peer
open Go.RowKit Go.Proofs.Ytnjmdgnghidjhaa.Ord
open Lex (Owb Tx bs_cut)
theorem tx_frm {w w' : World} {T g : Nat} {A : Option Addr} {t : List B} (h : Tx w T A t) (hf : Frm [g] w w') (hT : T ≤ g) (hg : ∀ o fz, w.heap[g]? ≠ some (Obj.cells o 5 fz)) (hTw : T ≤ w.heap.size) : Tx w' T A t := by
 rcases h with h | h
 ·exact .inl (h.keep fun p hp => World.cell?_of_block (hf.block p.block (by omega) (by simp; omega)))
 ·exact .inr (h.keep fun k cs fz hk => hf.block k (Array.getElem?_eq_some_iff.1 hk).1 (by intro e; rw [List.mem_singleton.1 e] at hk; exact hg _ _ hk))
end Go.Proofs.Ytnjmdgnghidjhaa.Peer
end
section
namespace Go.Proofs.Ytnjmdgnghidjhaa.Peer
open Go.RowKit Go.Proofs.Ytnjmdgnghidjhaa.Ord
open Lex (Owb rowB add_at4)
def Rl.cells (v : Rl) : List Value := [.int .i64 v.r.state, .slice v.A1 v.r.line.length v.c1, .slice v.A2 v.r.out.length v.c2, .int .i64 v.r.next]
def rflat (vs : List Rl) : List Value := vs.flatMap Rl.cells
theorem rflat4 : ∀ (vs : List Rl) (i k : Nat) (v : Rl), vs[i]? = some v → k < 4 → (rflat vs)[i * 4 + k]? = v.cells[k]?
 | [], _, _, _, h, _ => by simp at h
 | u :: us, 0, k, v, h, hk => by
  simp at h
  subst h
  rw [rflat, List.flatMap_cons, List.getElem?_append_left (by rw [Nat.zero_mul, Nat.zero_add]; exact hk), Nat.zero_mul, Nat.zero_add]
 | u :: us, i + 1, k, v, h, hk => by
  have h1 := rflat4 us i k v (by simpa using h) hk
  rw [rflat, List.flatMap_cons, List.getElem?_append_right (by show 4 ≤ _; omega)]
  rw [← h1]
  show _ = (us.flatMap Rl.cells)[i * 4 + k]?
  congr 1
  show (i + 1) * 4 + k - 4 = _
  omega
end Go.Proofs.Ytnjmdgnghidjhaa.Peer
end
section
namespace Go.Proofs.Ytnjmdgnghidjhaa.Peer
open Go.RowKit Go.Proofs.Ytnjmdgnghidjhaa.Ord
open Lex (Tx)
open Rec (Vt Tvs Trow txt)
structure Dvm where
 s : Int
 pt : List B
 lg : List B
 ls : List Vt
 PA : Option Addr
 pc : Nat
 LA : Option Addr
 lc : Nat
 A : Option Addr
 c : Nat
def Dvm.cells (v : Dvm) : List Value := [.int .i64 v.s, .slice v.PA v.pt.length v.pc, .slice v.LA v.lg.length v.lc, .slice v.A v.ls.length v.c]
def Dvm.m (v : Dvm) : Pe := ⟨v.s, v.pt, v.lg, txt v.ls⟩
structure Dok (w : World) (T : Nat) (v : Dvm) : Prop where
 pt : Tx w T v.PA v.pt
 lg : Tx w T v.LA v.lg
 ls : Tvs w T v.A v.ls
 row : Trow w T v.A v.ls
theorem Dok.below {w w' : World} {T : Nat} {v : Dvm} (h : Dok w T v) (hT : T ≤ w.heap.size) (hb : Below w.heap.size w w') : Dok w' T v := ⟨h.pt.below hT hb, h.lg.below hT hb, h.ls.below hT hb, h.row.below hb⟩
theorem Dok.frm {w w' : World} {T g : Nat} {v : Dvm} {t : TypeId} {cs : List Value} (h : Dok w T v) (hT : T ≤ w.heap.size) (hf : Frm [g] w w') (hg : T ≤ g) (hc : Cel w g t cs) (h1 : t ≠ 5) (h2 : t ≠ 37) : Dok w' T v := by
 obtain ⟨q1, q2⟩ := h.ls.frm h.row hf (fun q hq => by simp at hq; subst hq; exact ⟨hg, hc.not_ty h1, hc.not_ty h2⟩)
 exact ⟨tx_frm h.pt hf hg (hc.not_ty h1) hT, tx_frm h.lg hf hg (hc.not_ty h1) hT, q1, q2⟩
def PfSays (w : World) (T : Nat) (p : Pe) (e : Ending) (w' : World) : Prop := ∃ v : Dvm, e = .returned (.agg v.cells.toArray) ∧ Below w.heap.size w w' ∧ Dok w' T v ∧ v.m = p
def Rfew (vs : List Rl) (n : Nat) : Prop := vs.length = n ∧ n ≤ 20 ∧ ∀ v ∈ vs, v.r.line.length ≤ 60 ∧ v.r.out.length ≤ 60
def Dfew (v : Dvm) : Prop := v.pt.length ≤ 400 ∧ v.lg.length ≤ 1000000 ∧ v.ls.length ≤ 10000 ∧ ∀ l ∈ v.ls, l.t.length ≤ 400
def PFeed : Prop := ∀ (w : World) (T : Nat), T ≤ w.heap.size → ∀ (AR : Option Addr) (n c : Nat) (vs : List Rl), Rls w T AR vs → Rfew vs n → ∀ v : Dvm, Dok w T v → Dfew v → ∀ (D : Nat) (AB : Option Addr) (m cb : Nat) (bs : List B), Bs w D AB m bs → D ≤ w.heap.size → m ≤ cb → m ≤ 1000 →
 Calls Try.prog 29 #[.slice AR n c, .agg v.cells.toArray, .slice AB m cb] w (PfSays w T (feedR (vs.map (·.r)) v.m bs))
theorem feed_dfew {vs : List Rl} {n : Nat} (hr : Rfew vs n) {p : Pe} (hp : p.part.length ≤ 400) (bs : List B) (hl : ∀ l ∈ p.lines, l.length ≤ 400) :
  (feedR (vs.map (·.r)) p bs).part.length ≤ 400 ∧ (feedR (vs.map (·.r)) p bs).log.length ≤ p.log.length + 60 * bs.length ∧ (feedR (vs.map (·.r)) p bs).lines.length ≤ p.lines.length + bs.length ∧ ∀ l ∈ (feedR (vs.map (·.r)) p bs).lines, l.length ≤ 400 := by
 induction bs generalizing p with
 | nil => exact ⟨hp, by simp [feed_nil], by simp [feed_nil], hl⟩
 | cons c bs ih =>
  rw [feed_cons]
  have hk : ∀ r ∈ vs.map (·.r), r.out.length ≤ 60 := fun r hr' => by
   obtain ⟨v, hv, rfl⟩ := List.mem_map.1 hr'
   exact (hr.2.2 v hv).2
  obtain ⟨b1, b2, b3⟩ := byte_sizes (rs := vs.map (·.r)) (p := p) (c := c) hk
  have b4 : ∀ l ∈ (byteR (vs.map (·.r)) p c).lines, l.length ≤ 400 := by
   intro l hm
   unfold byteR at hm
   split at hm
   ·unfold lineR at hm
    split at hm
    ·rcases List.mem_append.1 hm with hm | hm
     ·exact hl l hm
     ·simp at hm; rw [hm]; exact hp
    ·rcases List.mem_append.1 hm with hm | hm
     ·exact hl l hm
     ·simp at hm; rw [hm]; exact hp
   ·split at hm
    ·exact hl l hm
    ·split at hm <;> exact hl l hm
  obtain ⟨q1, q2, q3, q4⟩ := ih (p := byteR (vs.map (·.r)) p c) (by omega) b4
  refine ⟨q1, ?_, ?_, q4⟩
  ·rw [List.length_cons]; omega
  ·rw [List.length_cons]; omega
end Go.Proofs.Ytnjmdgnghidjhaa.Peer
end
section
namespace Go.Proofs.Ytnjmdgnghidjhaa.Peer
open Go.RowKit Go.Proofs.Ytnjmdgnghidjhaa.Ord
open Lex (Tx)
open Rec (Vt Tvs Trow txt)
def Lsm (q : Lk) : Prop := q.p.part.length ≤ 400 ∧ q.p.log.length ≤ 300000 ∧ q.p.lines.length ≤ 5000 ∧ (∀ l ∈ q.p.lines, l.length ≤ 400) ∧ q.at ≤ q.p.log.length
def Pfew (rs : List Ru) : Prop := rs.length ≤ 20 ∧ ∀ r ∈ rs, r.line.length ≤ 60 ∧ r.out.length ≤ 60
abbrev pp (g k : Nat) : Value := .pointer (some ⟨g, k, none⟩)
def lk0 : Lk := ⟨⟨0, [], [], []⟩, 0⟩
structure LinkC (P : World → List Nat → Nat → List Ru → Lk → Prop) : Prop where
 below : ∀ {w w' : World} {l : List Nat} {g : Nat} {rs : List Ru} {q : Lk}, P w l g rs q → Below w.heap.size w w' → P w' l g rs q
 frm : ∀ {w w' : World} {l : List Nat} {g k : Nat} {rs : List Ru} {q : Lk} {cs : List Value}, P w l g rs q → Cel w k 36 cs → k ∉ l → Frm [k] w w' → P w' l g rs q
 own : ∀ {w : World} {l : List Nat} {g : Nat} {rs : List Ru} {q : Lk}, P w l g rs q → ∀ k ∈ l, k < w.heap.size
 kind : ∀ {w : World} {l : List Nat} {g : Nat} {rs : List Ru} {q : Lk}, P w l g rs q → ∀ k ∈ l, ∀ o fz, w.heap[k]? ≠ some (Obj.cells o 9 fz)
 new : ∀ (w : World) (T : Nat) (A : Option Addr) (n c : Nat) (vs : List Rl), Rls w T A vs → T ≤ w.heap.size → Rfew vs n → Calls Try.prog 8 #[.slice A n c] w fun e w' => ∃ l g, e = .returned (pp g 0) ∧ (∀ k ∈ l, w.heap.size ≤ k ∧ k < w'.heap.size ∧ ∀ o fz, w'.heap[k]? ≠ some (Obj.cells o 5 fz)) ∧ P w' l g (vs.map (·.r)) lk0 ∧ Below w.heap.size w w'
 send : ∀ (w : World) (l : List Nat) (g : Nat) (rs : List Ru) (q : Lk), P w l g rs q → Pfew rs → Lsm q → ∀ (A : Option Addr) (m cb : Nat) (x : List B), Bs w w.heap.size A m x → m ≤ cb → m ≤ 100 → ∀ room : Int, Calls Try.prog 10 #[pp g 0, .slice A m cb, .int .i64 room] w fun e w' => ∃ l', e = .returned (.bool (sendR rs q x room).2) ∧ Frm l w w' ∧ (∀ k ∈ l', k ∈ l ∨ w.heap.size ≤ k) ∧ P w' l' g rs (sendR rs q x room).1
 read : ∀ (w : World) (l : List Nat) (g : Nat) (rs : List Ru) (q : Lk), P w l g rs q → Lsm q → ∀ most : Int, Calls Try.prog 12 #[pp g 0, .int .i64 most] w fun e w' => ∃ A c, e = .returned (.slice A (readR q most).2.length c) ∧ By w' A (readR q most).2.length (readR q most).2 ∧ Frm l w w' ∧ P w' l g rs (readR q most).1
 attach : ∀ (w : World) (l : List Nat) (g : Nat) (rs : List Ru) (q : Lk), P w l g rs q → Lsm q → ∀ o : Int, Calls Try.prog 14 #[pp g 0, .int .i64 o] w fun e w' => e = .returned (.int .i64 (attachR q o).2) ∧ Frm l w w' ∧ P w' l g rs (attachR q o).1
 peer : ∀ (w : World) (l : List Nat) (g : Nat) (rs : List Ru) (q : Lk), P w l g rs q → Lsm q → Calls Try.prog 18 #[pp g 0] w fun e w' => ∃ v : Dvm, e = .returned (.agg v.cells.toArray) ∧ Below w.heap.size w w' ∧ Dok w' w'.heap.size v ∧ v.m = q.p
 nsend : ∀ (w : World) (room : Int), Calls Try.prog 10 #[.pointer none, .slice none 0 0, .int .i64 room] w fun e w' => e = .returned (.bool false) ∧ Below w.heap.size w w'
 nattach : ∀ (w : World) (o : Int), Calls Try.prog 14 #[.pointer none, .int .i64 o] w fun e w' => e = .returned (.int .i64 1) ∧ Below w.heap.size w w'
def Knows18 : Prop := ∀ w : World, Calls Try.prog 7 #[] w fun e w' => e = .returned (.bool true) ∧ Below w.heap.size w w'
def Lsi (i : Nat) (q : Lk) : Prop := q.p.part.length ≤ 400 ∧ q.p.log.length ≤ i * 6120 ∧ q.p.lines.length ≤ i * 102 ∧ (∀ l ∈ q.p.lines, l.length ≤ 400) ∧ q.at ≤ q.p.log.length
theorem Lsi.sm {i : Nat} {q : Lk} (h : Lsi i q) (hi : i ≤ 40) : Lsm q := by
 obtain ⟨h1, h2, h3, h4, h5⟩ := h
 have e1 : i * 6120 ≤ 40 * 6120 := Nat.mul_le_mul_right _ hi
 have e2 : i * 102 ≤ 40 * 102 := Nat.mul_le_mul_right _ hi
 exact ⟨h1, by omega, by omega, h4, h5⟩
theorem lsi0 : Lsi 0 lk0 := ⟨Nat.zero_le _, Nat.zero_le _, Nat.zero_le _, (fun l hl => absurd (show l ∈ ([] : List (List B)) from hl) List.not_mem_nil), Nat.zero_le _⟩
theorem Lsi.mk' {i k n : Nat} {q : Lk} (h1 : q.p.part.length ≤ 400) (h2 : q.p.log.length ≤ k) (hk : k ≤ i * 6120) (h3 : q.p.lines.length ≤ n) (hn : n ≤ i * 102) (h4 : ∀ l ∈ q.p.lines, l.length ≤ 400) (h5 : q.at ≤ q.p.log.length) : Lsi i q := ⟨h1, Nat.le_trans h2 hk, Nat.le_trans h3 hn, h4, h5⟩
theorem pfew_of {vs : List Rl} {n : Nat} (h : Rfew vs n) : Pfew (vs.map (·.r)) := ⟨by rw [List.length_map, h.1]; exact h.2.1, fun r hr => by
 obtain ⟨v, hv, rfl⟩ := List.mem_map.1 hr
 exact h.2.2 v hv⟩
theorem line_log (rs : List Ru) (p : Pe) (x : List B) : p.log.length ≤ (lineR rs p x).log.length := by
 unfold lineR
 split
 all_goals first
  | exact Nat.le_refl _
  | (show p.log.length ≤ (p.log ++ _).length
     rw [List.length_append]
     omega)
theorem feed_log : ∀ (bs : List B) (rs : List Ru) (p : Pe), p.log.length ≤ (feedR rs p bs).log.length
 | [], rs, p => by rw [feed_nil]; exact Nat.le_refl _
 | c :: bs, rs, p => by
  rw [feed_cons]
  refine Nat.le_trans ?_ (feed_log bs rs _)
  unfold byteR
  split
  ·exact line_log rs p p.part
  ·split
   ·exact Nat.le_refl _
   ·split <;> exact Nat.le_refl _
theorem Lsi.send {i : Nat} {q : Lk} (h : Lsi i q) {vs : List Rl} {n : Nat} (hr : Rfew vs n) {x : List B} (hx : x.length ≤ 100) (room : Int) : Lsi (i + 1) (sendR (vs.map (·.r)) q x room).1 := by
 obtain ⟨h1, h2, h3, h4, h5⟩ := h
 have hl : ((wire x).take room.toNat).length ≤ 102 := by
  have := List.length_take_le room.toNat (wire x)
  have e := wire_len x
  have : ((wire x).take room.toNat).length ≤ (wire x).length := by rw [List.length_take]; exact Nat.min_le_right _ _
  omega
 obtain ⟨q1, q2, q3, q4⟩ := feed_dfew hr (p := q.p) h1 ((wire x).take room.toNat) h4
 have e1 : (i + 1) * 6120 = i * 6120 + 6120 := Nat.succ_mul i 6120
 have e2 : (i + 1) * 102 = i * 102 + 102 := Nat.succ_mul i 102
 have e3 : q.p.log.length + 60 * ((wire x).take room.toNat).length ≤ (i + 1) * 6120 := by omega
 have e4 : q.p.lines.length + ((wire x).take room.toNat).length ≤ (i + 1) * 102 := by omega
 have h5' := Nat.le_trans h5 (feed_log ((wire x).take room.toNat) (vs.map (·.r)) q.p)
 show Lsi (i + 1) ⟨feedR (vs.map (·.r)) q.p ((wire x).take room.toNat), q.at⟩
 generalize feedR (vs.map (·.r)) q.p ((wire x).take room.toNat) = p' at *
 exact Lsi.mk' q1 q2 e3 q3 e4 q4 h5'
/-! ### The document's calls, in the model's words. -/
theorem rls_nil {w : World} {T : Nat} {A : Option Addr} : Rls w T A [] := fun i v hi => by simp at hi
end Go.Proofs.Ytnjmdgnghidjhaa.Peer
end
section
namespace Go.Proofs.Ytnjmdgnghidjhaa.Peer
open Go.RowKit Go.Proofs.Ytnjmdgnghidjhaa.Ord
open Lex (Tx)
open Rec (Vt Tvs Trow txt)
abbrev LP := World → List Nat → Nat → List Ru → Lk → Prop
section
variable {P : LP} {w w6 : World} {l0 l l' : List Nat} {g g2 D : Nat} {AR : Option Addr} {n c : Nat} {ys : List Rl} {W V V2 : World} {q q' : Lk}
end
end Go.Proofs.Ytnjmdgnghidjhaa.Peer
end
section
namespace Go.Proofs.Ytnjmdgnghidjhaa.Ord
open Go.RowKit
section
variable {P : Program} {ops : Array Oper} {Q : Exit → Act → World → Prop} {md : Region.Mode} {S : World → Prop} {N : List Nat}
theorem wpAnyN_two {i j : Nat} {oi oj : Oper} {fuel : Nat} {listed : Array Bool} {a : Act} {w : World} (hr : Region.ready md ops listed = [i, j]) (hi : ops[i]? = some oi) (hj : ops[j]? = some oj)
  (h1 : ∀ K' : Act → World → Prop, Shut (∀ a w, (i ∈ N ∨ S w) → wpAnyN P md ops Q S N fuel (listed.setIfInBounds i true) a w → K' a w) → if Region.wanted oi (yielded ops a.tmps) = true then Oper.wp P oi a w K' Q else K' (a.put oi.dst undef) w)
  (h2 : ∀ K' : Act → World → Prop, Shut (∀ a w, (j ∈ N ∨ S w) → wpAnyN P md ops Q S N fuel (listed.setIfInBounds j true) a w → K' a w) → if Region.wanted oj (yielded ops a.tmps) = true then Oper.wp P oj a w K' Q else K' (a.put oj.dst undef) w) :
  wpAnyN P md ops Q S N (fuel + 1) listed a w :=
 ⟨fun h0 => (by rw [hr] at h0; cases h0), fun k hk => by
  rw [hr] at hk
  simp only [List.mem_cons, List.not_mem_nil, or_false] at hk
  rcases hk with rfl | rfl
  ·exact wpOp_step hi (fun K' hK => h1 K' (fun a w hS hW => hK a w ⟨fun hn => hS.resolve_left hn, hW⟩))
  ·exact wpOp_step hj (fun K' hK => h2 K' (fun a w hS hW => hK a w ⟨fun hn => hS.resolve_left hn, hW⟩))⟩
end
end Go.Proofs.Ytnjmdgnghidjhaa.Ord
end
section
namespace Go.Proofs.Ytnjmdgnghidjhaa.Peer
open Go.RowKit Go.Proofs.Ytnjmdgnghidjhaa.Ord
open Lex (Tx Owb rowB lit_one)
open Rec (Vt Tvs Trow txt)
def okB : List B := [111#8, 107#8]
def yesB : List B := [121#8, 101#8, 115#8]
def inB : List B := [104#8, 105#8, 21#8, 111#8, 107#8, 10#8]
def ru0 : Ru := ⟨0, okB, yesB, 1⟩
def pe1 : Pe := ⟨1, [], yesB, [okB]⟩
theorem fed : feedR [ru0] ⟨0, [], [], []⟩ inB = pe1 := by rfl
theorem cell_lit (w : World) (C : Array Value) (e : TypeId) (f : Nat × Nat) (k : Nat) : (w.alloc (.cells C e f)).cell? ⟨w.heap.size, k, none⟩ = C[k]? := by
 have h : (w.alloc (.cells C e f)).heap[w.heap.size]? = some (.cells C e f) := by
  show (w.heap.push (.cells C e f))[w.heap.size]? = _
  simp
 unfold World.cell?
 rw [h]
 rfl
theorem tx_lit (w : World) (bs : List B) (f : Nat × Nat) : Tx (w.alloc (.cells (bs.map v8).toArray 5 f)) (w.heap.size + 1) (some ⟨w.heap.size, 0, none⟩) bs :=
 .inl ⟨rfl, fun _ => ⟨_, rfl, Nat.lt_succ_self _, fun j hj => by
  have h := cell_lit w (bs.map v8).toArray 5 f j
  have e : (bs.map v8).toArray[j]? = some (v8 (bs.getD j 0#8)) := by simp [hj, List.getD_eq_getElem?_getD]
  rw [e] at h
  cases j <;> simpa [Addr.add] using h⟩⟩
def mk (w : World) (bs : List B) : World := w.alloc (.cells (bs.map v8).toArray 5 (bs.length, bs.length + 1))
theorem mk_size (w : World) (bs : List B) : (mk w bs).heap.size = w.heap.size + 1 := by simp [mk]
theorem mk_below (w : World) (bs : List B) : Below w.heap.size w (mk w bs) := (Below.refl _ _).alloc (Nat.le_refl _) _
theorem mk_tx (w : World) (bs : List B) : Tx (mk w bs) (mk w bs).heap.size (some ⟨w.heap.size, 0, none⟩) bs := by rw [mk_size]; exact tx_lit w bs _
theorem mk_cv (w : World) (bs : List B) (g n : Nat) (hg : g = w.heap.size) : (convert 37 37 (.slice (some ⟨g, 0, none⟩) n n)).run Try.prog (w.alloc (.cells (bs.map v8).toArray 5)) = .ok (.slice (some ⟨g, 0, none⟩) n n) (mk w bs) := by
 subst hg
 have h := Lib.run_convert_bytes_const (P := Try.prog) w 37 5 (bs.map v8).toArray n n rfl rfl
 simpa [mk] using h
end Go.Proofs.Ytnjmdgnghidjhaa.Peer
end
