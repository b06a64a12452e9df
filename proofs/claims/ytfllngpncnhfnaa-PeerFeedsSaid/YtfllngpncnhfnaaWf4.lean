/-
Texts: PeerPsays PeerFeedsW PeerPartsW PeerKnows
-/
import Derived.Test.YtfllngpncnhfnaaWf0
import Derived.Test.YtfllngpncnhfnaaWf1
import Derived.Test.YtfllngpncnhfnaaWf2
import Derived.Test.YtfllngpncnhfnaaWf3
import Derived.Deep.MidRow
import Derived.Lib.SlBytesConst
set_option linter.unusedVariables false
set_option linter.unusedSimpArgs false
set_option maxRecDepth 100000
set_option maxHeartbeats 4000000
namespace Go.Proofs.Ytfllngpncnhfnaa.Ord
end Go.Proofs.Ytfllngpncnhfnaa.Ord
section
namespace Go.Proofs.Ytfllngpncnhfnaa.Peer
open Go.RowKit Go.Proofs.Ytfllngpncnhfnaa.Ord
open Lex (Tx)
open Rec (Vt Tvs Trow txt)
open Vars (scell)
structure Dvm where
 s : Int
 pt : List B
 lg : List B
 ls : List Vt
 PA : Option Addr
 pc : Nat
 LA : Option Addr
 lc : Nat
 A : Option Addr
 c : Nat
def Dvm.cells (v : Dvm) : List Value := [.int .i64 v.s, .slice v.PA v.pt.length v.pc, .slice v.LA v.lg.length v.lc, .slice v.A v.ls.length v.c]
def Dvm.m (v : Dvm) : Pe := ⟨v.s, v.pt, v.lg, txt v.ls⟩
structure Dok (w : World) (T : Nat) (v : Dvm) : Prop where
 pt : Tx w T v.PA v.pt
 lg : Tx w T v.LA v.lg
 ls : Tvs w T v.A v.ls
 row : Trow w T v.A v.ls
theorem Dok.below {w w' : World} {T : Nat} {v : Dvm} (h : Dok w T v) (hT : T ≤ w.heap.size) (hb : Below w.heap.size w w') : Dok w' T v := ⟨h.pt.below hT hb, h.lg.below hT hb, h.ls.below hT hb, h.row.below hb⟩
theorem Dok.frm {w w' : World} {T g : Nat} {v : Dvm} {t : TypeId} {cs : List Value} (h : Dok w T v) (hT : T ≤ w.heap.size) (hf : Frm [g] w w') (hg : T ≤ g) (hc : Cel w g t cs) (h1 : t ≠ 5) (h2 : t ≠ 23) : Dok w' T v := by
 obtain ⟨q1, q2⟩ := h.ls.frm h.row hf (fun q hq => by simp at hq; subst hq; exact ⟨hg, hc.not_ty h1, hc.not_ty h2⟩)
 exact ⟨tx_frm h.pt hf hg (hc.not_ty h1) hT, tx_frm h.lg hf hg (hc.not_ty h1) hT, q1, q2⟩
def PfSays (w : World) (T : Nat) (p : Pe) (e : Ending) (w' : World) : Prop := ∃ v : Dvm, e = .returned (.agg v.cells.toArray) ∧ Below w.heap.size w w' ∧ Dok w' T v ∧ v.m = p
def Rfew (vs : List Rl) (n : Nat) : Prop := vs.length = n ∧ n ≤ 20 ∧ ∀ v ∈ vs, v.r.line.length ≤ 60 ∧ v.r.out.length ≤ 60
def Dfew (v : Dvm) : Prop := v.pt.length ≤ 400 ∧ v.lg.length ≤ 1000000 ∧ v.ls.length ≤ 10000 ∧ ∀ l ∈ v.ls, l.t.length ≤ 400
def PFeed : Prop := ∀ (w : World) (T : Nat), T ≤ w.heap.size → ∀ (AR : Option Addr) (n c : Nat) (vs : List Rl), Rls w T AR vs → Rfew vs n → ∀ v : Dvm, Dok w T v → Dfew v → ∀ (D : Nat) (AB : Option Addr) (m cb : Nat) (bs : List B), Bs w D AB m bs → D ≤ w.heap.size → m ≤ cb → m ≤ 1000 →
 Calls Try.prog 9 #[.slice AR n c, .agg v.cells.toArray, .slice AB m cb] w (PfSays w T (feedR (vs.map (·.r)) v.m bs))
def Knows17 : Prop := ∀ w : World, Calls Try.prog 7 #[] w fun e w' => e = .returned (.bool true) ∧ Below w.heap.size w w'
theorem lns_of {w : World} {A : Option Addr} {ls : List (List B)} (h : Lnr w A ls) : Lns w A (ls.map str) := fun i x hi => by
 have hne : ls.map scell ≠ [] := fun e => by
  have := congrArg List.length e
  simp at this
  rw [this] at hi
  simp at hi
 obtain ⟨ad, e, _, hc⟩ := h hne
 refine ⟨ad, e, ?_⟩
 rw [List.getElem?_map] at hi
 cases hl : ls[i]? with
 | none => rw [hl] at hi; cases hi
 | some l =>
  rw [hl] at hi
  injection hi with hi
  subst hi
  exact hc i _ (by rw [List.getElem?_map, hl]; rfl)
theorem as17v (w : World) (T : Nat) (v : Dvm) (h : Dok w T v) (hT : T ≤ w.heap.size) (hn : v.ls.length ≤ 100000) :
  Calls Try.prog 8 #[.agg v.cells.toArray] w (AsSays w v.s v.pt v.lg v.ls.length v.ls) := as17 w T v.s v.PA v.pc v.pt v.LA v.lc v.lg v.A v.ls.length v.c v.ls h.pt h.lg h.ls hT rfl hn
theorem same17p (w : World) (p : Pe) (A1 A2 : Option Addr) (n c1 c2 : Nat) (h1 : Lnr w A1 p.lines) (h2 : Lnr w A2 p.lines) (hl : p.lines.length = n) (hn : n ≤ 100000) :
  Calls Try.prog 10 #[.agg #[.int .i64 p.state, .string (str p.part), .string (str p.log), .slice A1 n c1], .agg #[.int .i64 p.state, .string (str p.part), .string (str p.log), .slice A2 n c2]] w fun e w' => e = .returned (.bool true) ∧ Below w.heap.size w w' :=
 same17 w p.state (str p.part) (str p.log) A1 A2 n c1 c2 (p.lines.map str) (lns_of h1) (lns_of h2) (by rw [List.length_map]; exact hl) (by unfold maxLen; omega)
theorem feed_dfew {vs : List Rl} {n : Nat} (hr : Rfew vs n) {p : Pe} (hp : p.part.length ≤ 400) (bs : List B) (hl : ∀ l ∈ p.lines, l.length ≤ 400) :
  (feedR (vs.map (·.r)) p bs).part.length ≤ 400 ∧ (feedR (vs.map (·.r)) p bs).log.length ≤ p.log.length + 60 * bs.length ∧ (feedR (vs.map (·.r)) p bs).lines.length ≤ p.lines.length + bs.length ∧ ∀ l ∈ (feedR (vs.map (·.r)) p bs).lines, l.length ≤ 400 := by
 induction bs generalizing p with
 | nil => exact ⟨hp, by simp [feed_nil], by simp [feed_nil], hl⟩
 | cons c bs ih =>
  rw [feed_cons]
  have hk : ∀ r ∈ vs.map (·.r), r.out.length ≤ 60 := fun r hr' => by
   obtain ⟨v, hv, rfl⟩ := List.mem_map.1 hr'
   exact (hr.2.2 v hv).2
  obtain ⟨b1, b2, b3⟩ := byte_sizes (rs := vs.map (·.r)) (p := p) (c := c) hk
  have b4 : ∀ l ∈ (byteR (vs.map (·.r)) p c).lines, l.length ≤ 400 := by
   intro l hm
   unfold byteR at hm
   split at hm
   ·unfold lineR at hm
    split at hm
    ·rcases List.mem_append.1 hm with hm | hm
     ·exact hl l hm
     ·simp at hm; rw [hm]; exact hp
    ·rcases List.mem_append.1 hm with hm | hm
     ·exact hl l hm
     ·simp at hm; rw [hm]; exact hp
   ·split at hm
    ·exact hl l hm
    ·split at hm <;> exact hl l hm
  obtain ⟨q1, q2, q3, q4⟩ := ih (p := byteR (vs.map (·.r)) p c) (by omega) b4
  refine ⟨q1, ?_, ?_, q4⟩
  ·rw [List.length_cons]; omega
  ·rw [List.length_cons]; omega
end Go.Proofs.Ytfllngpncnhfnaa.Peer
end
section
namespace Go.Proofs.Ytfllngpncnhfnaa.Peer
open Go.RowKit Go.Proofs.Ytfllngpncnhfnaa.Ord
open Lex (Tx)
open Rec (Vt Tvs Trow txt)
open Vars (scell)
theorem cells4 {w : World} {g : Nat} {t : TypeId} {v : Dvm} (h : Cel w g t v.cells) : w.cell? ⟨g, 0, none⟩ = some (.int .i64 v.s) ∧ w.cell? ⟨g, 1, none⟩ = some (.slice v.PA v.pt.length v.pc) ∧ w.cell? ⟨g, 2, none⟩ = some (.slice v.LA v.lg.length v.lc) ∧ w.cell? ⟨g, 3, none⟩ = some (.slice v.A v.ls.length v.c) := ⟨h.cell 0, h.cell 1, h.cell 2, h.cell 3⟩
theorem feeds_walk (HFD : PFeed) (HKN : Knows17) (w : World) (AR : Option Addr) (n c : Nat) (vs : List Rl) (hr : Rls w w.heap.size AR vs) (hl : vs.length = n) (hn : n ≤ maxLen) (hf : ∀ v ∈ vs, v.r.line.length ≤ maxLen ∧ v.r.out.length ≤ maxLen)
  (v : Dvm) (hd : Dok w w.heap.size v) (hd1 : v.ls.length ≤ maxLen) (hd2 : v.pt.length ≤ maxLen) (hd3 : v.lg.length ≤ maxLen) (AB : Option Addr) (m cb : Nat) (bs : List B) (hb : Bs w w.heap.size AB m bs) (hm : m ≤ cb) (hcb : cb ≤ maxLen) :
  Calls Try.prog 3 #[.slice AR n c, .agg v.cells.toArray, .slice AB m cb] w fun e w' => e = .returned (.bool true) ∧ Below w.heap.size w w' := by
 unfold maxLen at hcb
 obtain ⟨T, hT⟩ : ∃ T, T = w.heap.size := ⟨_, rfl⟩
 rw [← hT] at hr hd
 have hTw : T ≤ w.heap.size := by omega
 obtain ⟨W1, hW1⟩ : ∃ w1, w1 = w.alloc (.cells v.cells.toArray 26) := ⟨_, rfl⟩
 have hb1 : Below w.heap.size w W1 := by rw [hW1]; exact (Below.refl _ _).alloc (Nat.le_refl _) _
 have hc1 : Cel W1 w.heap.size 26 v.cells := by rw [hW1]; exact Cel.new w _ _
 have HTW := Lib.hid (show ∀ V, Below w.heap.size w V → T ≤ V.heap.size from fun V h => Nat.le_trans hTw h.size)
 have HR := Lib.hid (show ∀ V, Below w.heap.size w V → Rls V T AR vs from fun V h => hr.below hTw h)
 have HD := Lib.hid (show ∀ V, Below w.heap.size w V → Dok V T v from fun V h => hd.below hTw h)
 have HBS := Lib.hid (show ∀ V, Below w.heap.size w V → Bs V w.heap.size AB m bs from fun V h => hb.below h)
 have HBL := Lib.hid hb.len
 have HL := Lib.hid hl
 have KN := Lib.hid (show ∀ W : World, Below w.heap.size w W → Calls Try.prog 7 #[] W fun e w' => e = .returned (.bool true) ∧ Below w.heap.size w w' from fun W hW => (HKN W).mono fun e w' h => ⟨h.1, hW.trans (h.2.mono hW.size)⟩)
 have HK0 := Lib.hid HKN
 have con := fewRules W1 T AR n c vs (hr.below hTw hb1) (Nat.le_trans hTw hb1.size) hl hn hf
 have CON2 := Lib.hid (fun W => fun h : Below w.heap.size w W => fewPeer W T v.s v.PA v.pt.length v.pc v.LA v.lg.length v.lc v.A v.ls.length v.c v.ls (hd.ls.below hTw h) (Nat.le_trans hTw h.size) rfl hd1 hd2 hd3)
 have HB1 := Lib.hid hb1
 have HC1 := Lib.hid hc1
 clear hb1 hc1 hr hd hb hf HKN hl hT hTw
 go_enter Try.func3, Try.ntmps3
 go_upto_region 1 with fail
 rw [← hW1]
 clear hW1
 go_wp2_with fail
 refine con.mono ?_
 clear con
 rintro e w2 ⟨b1, rfl, hb2, hx1⟩
 have HB2 := Lib.hid (HB1.out.trans (hb2.mono HB1.out.size))
 have HC2 := Lib.hid (HC1.out.below hb2 HC1.out.lt)
 have HX1 := Lib.hid hx1
 clear hb2 hx1 HC1 HB1
 cases b1 with
 | false =>
  go_wp2_with fail
  refine (KN.out _ HB2.out).mono ?_
  rintro e wk ⟨rfl, hbk⟩
  have HBK := Lib.hid hbk
  clear hbk
  go_wp2_with fail
  go_ret
  exact ⟨rfl, HBK.out⟩
 | true =>
  have con := CON2.out w2 HB2.out
  obtain ⟨k0, k1, k2, k3⟩ := cells4 HC2.out
  go_wp2_with fail
  refine con.mono ?_
  clear con k0 k1 k2 k3
  rintro e w3 ⟨b2, rfl, hb3, hx2⟩
  have HB3 := Lib.hid (HB2.out.trans (hb3.mono HB2.out.size))
  have HC3 := Lib.hid (HC2.out.below hb3 HC2.out.lt)
  have HX2 := Lib.hid hx2
  clear hb3 hx2 HC2 HB2
  cases b2 with
  | false =>
   go_wp2_with fail
   refine (KN.out _ HB3.out).mono ?_
   rintro e wk ⟨rfl, hbk⟩
   have HBK := Lib.hid hbk
   clear hbk
   go_wp2_with fail
   go_ret
   exact ⟨rfl, HBK.out⟩
  | true =>
   by_cases h8 : 800 < m
   ·have dd : decide ((800 : Int) < (m : Int)) = true := by simp; omega
    go_wp2_with fail
    refine (KN.out _ HB3.out).mono ?_
    rintro e wk ⟨rfl, hbk⟩
    have HBK := Lib.hid hbk
    clear hbk
    go_wp2_with fail
    go_ret
    exact ⟨rfl, HBK.out⟩
   ·have dd : decide ((800 : Int) < (m : Int)) = false := by simp; omega
    obtain ⟨q1, q2⟩ := HX1.out (by first | rfl | trivial)
    obtain ⟨p1, p2, p3, p4⟩ := HX2.out (by first | rfl | trivial)
    have HRF : Hid (Rfew vs n) := Lib.hid ⟨HL.out, q1, q2⟩
    have HDF : Hid (Dfew v) := Lib.hid ⟨by omega, by omega, by omega, fun l hl => by have := p4 l hl; omega⟩
    have HP3 := Lib.hid p3
    have HP1 := Lib.hid p1
    clear q1 q2 p1 p2 p3 p4 HX1 HX2
    have con := as17v w3 T v (HD.out _ HB3.out) (HTW.out _ HB3.out) (by have := HDF.out.2.2.1; omega)
    obtain ⟨k0, k1, k2, k3⟩ := cells4 HC3.out
    go_wp2_with fail
    refine con.mono ?_
    clear con k0 k1 k2 k3
    rintro e w4 ⟨A4, c4, rfl, hln4, hb4⟩
    obtain ⟨W5, hW5⟩ : ∃ W, W = w4.alloc (.cells ([.int .i64 v.s, .string (str v.pt), .string (str v.lg), .slice A4 v.ls.length c4] : List Value).toArray 32) := ⟨_, rfl⟩
    have hb5 : Below w4.heap.size w4 W5 := by rw [hW5]; exact (Below.refl _ _).alloc (Nat.le_refl _) _
    have hb35 : Below w3.heap.size w3 W5 := hb4.trans (hb5.mono hb4.size)
    have HB5 := Lib.hid (HB3.out.trans (hb35.mono HB3.out.size))
    have HC5 := Lib.hid (HC3.out.below hb35 HC3.out.lt)
    have HO5 := Lib.hid (show Cel W5 w4.heap.size 32 [.int .i64 v.s, .string (str v.pt), .string (str v.lg), .slice A4 v.ls.length c4] by rw [hW5]; exact Cel.new w4 _ _)
    have HN5 := Lib.hid (show Lnr W5 A4 (txt v.ls) from hln4.below hb5)
    clear hb4 hb5 hb35 hln4 dd HC3
    go_upto_region 4 with fail
    rw [← hW5]
    clear hW5
    generalize w4.heap.size = g7 at *
    have con := HFD W5 T (HTW.out _ HB5.out) AR n c vs (HR.out _ HB5.out) HRF.out v (HD.out _ HB5.out) HDF.out w.heap.size AB m cb bs (HBS.out _ HB5.out) HB5.out.size hm (by omega)
    obtain ⟨k0, k1, k2, k3⟩ := cells4 HC5.out
    go_wp2_with fail
    refine con.mono ?_
    clear con k0 k1 k2 k3
    rintro e w6 ⟨q, rfl, hb6, hq, hqm⟩
    obtain ⟨W7, hW7⟩ : ∃ W, W = w6.alloc (.cells q.cells.toArray 26) := ⟨_, rfl⟩
    have hb7 : Below w6.heap.size w6 W7 := by rw [hW7]; exact (Below.refl _ _).alloc (Nat.le_refl _) _
    have hc7 : Cel W7 w6.heap.size 26 q.cells := by rw [hW7]; exact Cel.new w6 _ _
    obtain ⟨W8, hW8⟩ : ∃ W, W = W7.drew := ⟨_, rfl⟩
    have hb58 : Below W5.heap.size W5 W8 := by rw [hW8]; exact (hb6.trans (hb7.mono hb6.size)).drew
    have HB8 := Lib.hid (HB5.out.trans (hb58.mono HB5.out.size))
    have HC8 := Lib.hid (HC5.out.below hb58 HC5.out.lt)
    have HO8 := Lib.hid (HO5.out.below hb58 HO5.out.lt)
    have HN8 := Lib.hid (show ∀ V, Below W8.heap.size W8 V → Lnr V A4 (txt v.ls) from fun V hV => (Ry.below HN5.out hb58).below hV)
    have HQ8 := Lib.hid (show Cel W8 w6.heap.size 26 q.cells by rw [hW8]; exact hc7.drew)
    have HDQ := Lib.hid (show ∀ V, Below W8.heap.size W8 V → Dok V T q from fun V hV => by
     have h1 := HTW.out _ (HB5.out.trans (hb6.mono HB5.out.size))
     have h2 : Below w6.heap.size w6 W8 := by rw [hW8]; exact hb7.drew
     exact hq.below h1 (h2.trans (hV.mono h2.size)))
    have HQM := Lib.hid hqm
    unfold Dvm.cells at hW7 ⊢
    dsimp only at hW7 ⊢
    clear hb6 hb7 hc7 hb58 hq hqm HC5 HO5 HN5 HB5
    go_upto_region 5 with fail
    rw [← hW7]
    clear hW7
    generalize w6.heap.size = g8 at *
    refine Ord.wp_region_N [] (fun V => Below W8.heap.size W8 V) (by kernel_rfl) ?_
    rw [← hW8]
    have hH : Below W8.heap.size W8 W8 := Below.refl _ _
    clear hW8
    have hqd := feed_dfew HRF.out (p := v.m) HDF.out.1 bs (fun l hl => by
     obtain ⟨x, hx, rfl⟩ := List.mem_map.1 (show l ∈ v.ls.map (·.t) from hl)
     exact HDF.out.2.2.2 x hx)
    have hvl : v.m.lines.length = v.ls.length := by show (txt v.ls).length = _; unfold txt; rw [List.length_map]
    rw [← HQM.out, hvl, HBL.out] at hqd
    have hql : q.ls.length = q.m.lines.length := by show _ = (txt q.ls).length; unfold txt; rw [List.length_map]
    have HQL := Lib.hid hql
    have HQD := Lib.hid hqd
    clear hqd hvl hql
    refine wpAnyN_take (i := 0) (v := .agg q.cells.toArray) [] (by kernel_rfl) rfl (by kernel_rfl) (by kernel_rfl) (by kernel_rfl) (fun _ _ _ h => h) (yieldsIf_load_mid (by rfl) _ _ rfl g8 0 rfl q.cells _ (fun V hV => fun j u hu => by rw [Nat.zero_add, (HQ8.out.below hV HQ8.out.lt).cell j, hu]) Try.underlying26 rfl (show _ = some 4 by kernel_rfl)) hH ?_
    try simp only [Act.put, lay_]
    refine tk_ 2 (.slice AR n c) [] rfl hH ?_ ?_
    ·intro V hV; go_simp
    try simp only [Act.put, lay_]
    refine tk_ 4 (.agg #[.int .i64 v.s, .string (str v.pt), .string (str v.lg), .slice A4 v.ls.length c4]) [] rfl hH ?_ ?_
    ·intro V hV; have hc := HO8.out.below hV HO8.out.lt; have k0 := hc.cell 0; have k1 := hc.cell 1; have k2 := hc.cell 2; have k3 := hc.cell 3; clear hc; go_simp
    try simp only [Act.put, lay_]
    refine tk_ 5 (.slice AB m cb) [] rfl hH ?_ ?_
    ·intro V hV; go_simp
    try simp only [Act.put, lay_]
    refine wpAnyN_one (i := 1) (by kernel_rfl) rfl (fun K hK => ?_)
    go_simp
    refine (as17v W8 T q (HDQ.out _ hH) (HTW.out _ HB8.out) (by have := HQD.out.2.2.1; have := HQL.out; have := HP1.out; omega)).mono ?_
    rintro e w9 ⟨A9, c9, rfl, hln9, hb9⟩
    go_wp2_with fail
    refine hK.out _ _ (.inr hb9) ?_
    clear hK K
    try simp only [Act.put, lay_]
    have HB9 := Lib.hid hb9
    have HX9 := Lib.hid (HB8.out.trans (hb9.mono HB8.out.size))
    have HN9 := Lib.hid hln9
    clear hb9 hln9 hH
    refine wpAnyN_one (i := 3) (by kernel_rfl) rfl (fun K hK => ?_)
    go_simp
    refine (rules_ w9 T AR n c vs (HR.out _ HX9.out) (HTW.out _ HX9.out) HL.out (by have := HRF.out.2.1; omega) (fun r hr => by have := HRF.out.2.2 r hr; omega)).mono ?_
    rintro e w10 ⟨A10, c10, ys, rfl, hro, hrs, hb10⟩
    go_wp2_with fail
    refine hK.out _ _ (.inr (HB9.out.trans (hb10.mono HB9.out.size))) ?_
    clear hK K
    try simp only [Act.put, lay_]
    have HB10 := Lib.hid (HB9.out.trans (hb10.mono HB9.out.size))
    have HN10 := Lib.hid (Ry.below HN9.out hb10)
    have hyl : ys.length = n := by have := congrArg List.length hrs; rw [List.length_map, List.length_map, HL.out] at this; exact this
    have con := feed_ w10 w10.heap.size A10 n c10 ys (hro.rls _) (Nat.le_refl _) hyl (by have := HRF.out.2.1; omega) v.m A4 v.ls.length c4 (HN8.out _ HB10.out) (by show (txt v.ls).length = _; unfold txt; rw [List.length_map]) w.heap.size AB m cb bs (HBS.out _ (HB8.out.trans (HB10.out.mono HB8.out.size))) (by have := (HB8.out.trans (HB10.out.mono HB8.out.size)).size; exact this) (by omega) 60 (by decide) ⟨fun y hy => by
      have hm : y.r ∈ vs.map (·.r) := by rw [← hrs]; exact List.mem_map_of_mem hy
      obtain ⟨x, hx, e⟩ := List.mem_map.1 hm
      rw [← e]
      exact (HRF.out.2.2 x hx).2, by have := HP3.out; show v.lg.length + m * 60 ≤ _; omega, by have := HP1.out; omega⟩
    rw [hrs, ← HQM.out] at con
    have CON6 := Lib.hid con
    clear hb10 HB9 HX9 HN9 hro hrs hyl con
    refine wpAnyN_one (i := 6) (by kernel_rfl) rfl (fun K hK => ?_)
    go_simp
    refine (CON6.out).mono ?_
    rintro e w11 ⟨A11, c11, rfl, hln11, hb11⟩
    go_wp2_with fail
    refine hK.out _ _ (.inr (HB10.out.trans (hb11.mono HB10.out.size))) ?_
    clear hK K
    try simp only [Act.put, lay_]
    have HB11 := Lib.hid (HB10.out.trans (hb11.mono HB10.out.size))
    have HN11 := Lib.hid (Ry.below HN10.out hb11)
    have HM11 := Lib.hid hln11
    clear hb11 HB10 HN10 CON6 hln11
    refine wpAnyN_one (i := 7) (by kernel_rfl) rfl (fun K hK => ?_)
    go_simp
    rw [HQL.out]
    refine (same17p w11 q.m A9 A11 q.m.lines.length c9 c11 HN11.out HM11.out rfl (by have := HQD.out.2.2.1; have := HP1.out; omega)).mono ?_
    rintro e w12 ⟨rfl, hb12⟩
    go_wp2_with fail
    refine hK.out _ _ (.inr (HB11.out.trans (hb12.mono HB11.out.size))) ?_
    clear hK K
    try simp only [Act.put, lay_]
    have HB12 := Lib.hid (HB11.out.trans (hb12.mono HB11.out.size))
    have hH := HB12.out
    clear hb12 HB11 HN11 HM11
    refine tk_ 8 (.bool true) [] rfl hH ?_ ?_
    ·intro V hV; go_simp
    try simp only [Act.put, lay_]
    refine wpAnyN_take (i := 9) (v := .agg v.cells.toArray) [] (by kernel_rfl) rfl (by kernel_rfl) (by kernel_rfl) (by kernel_rfl) (fun _ _ _ h => h) (yieldsIf_load_mid (by rfl) _ _ rfl w.heap.size 0 rfl v.cells _ (fun V hV => fun j u hu => by rw [Nat.zero_add, (HC8.out.below hV HC8.out.lt).cell j, hu]) Try.underlying26 rfl (show _ = some 4 by kernel_rfl)) hH ?_
    try simp only [Act.put, lay_]
    refine tk_ 11 (.agg #[.int .i64 v.s, .string (str v.pt), .string (str v.lg), .slice A4 v.ls.length c4]) [] rfl hH ?_ ?_
    ·intro V hV; have hc := HO8.out.below hV HO8.out.lt; have k0 := hc.cell 0; have k1 := hc.cell 1; have k2 := hc.cell 2; have k3 := hc.cell 3; clear hc; go_simp
    try simp only [Act.put, lay_]
    have HX12 := Lib.hid (HB8.out.trans (hH.mono HB8.out.size))
    clear hH
    refine wpAnyN_one (i := 10) (by kernel_rfl) rfl (fun K hK => ?_)
    go_simp
    refine (as17v w12 T v (HD.out _ HX12.out) (HTW.out _ HX12.out) (by have := HP1.out; omega)).mono ?_
    rintro e w13 ⟨A13, c13, rfl, hln13, hb13⟩
    go_wp2_with fail
    refine hK.out _ _ (.inr (HB12.out.trans (hb13.mono HB12.out.size))) ?_
    clear hK K
    try simp only [Act.put, lay_]
    have HB13 := Lib.hid (HB12.out.trans (hb13.mono HB12.out.size))
    have HN13 := Lib.hid hln13
    clear hb13 hln13 HB12 HX12
    refine wpAnyN_one (i := 12) (by kernel_rfl) rfl (fun K hK => ?_)
    go_simp
    refine (same17p w13 v.m A13 A4 v.ls.length c13 c4 HN13.out (HN8.out _ HB13.out) (by show (txt v.ls).length = _; unfold txt; rw [List.length_map]) (by have := HP1.out; omega)).mono ?_
    rintro e w14 ⟨rfl, hb14⟩
    go_wp2_with fail
    refine hK.out _ _ (.inr (HB13.out.trans (hb14.mono HB13.out.size))) ?_
    clear hK K
    try simp only [Act.put, lay_]
    have HB14 := Lib.hid (HB13.out.trans (hb14.mono HB13.out.size))
    have hH := HB14.out
    clear hb14 HB13 HN13
    refine tk_ 13 (.bool true) [] rfl hH ?_ ?_
    ·intro V hV; go_simp
    try simp only [Act.put, lay_]
    refine tk_ 14 (.bool true) [] rfl hH ?_ ?_
    ·intro V hV; go_simp
    try simp only [Act.put, lay_]
    have HX14 := Lib.hid (HB8.out.trans (hH.mono HB8.out.size))
    clear hH
    refine wpAnyN_one (i := 15) (by kernel_rfl) rfl (fun K hK => ?_)
    go_simp
    refine (HK0.out w14).mono ?_
    rintro e w15 ⟨rfl, hbw⟩
    have hb15 := HX14.out.trans (hbw.mono HX14.out.size)
    have hb1415 := hbw.mono HB14.out.size
    have hH : Below W8.heap.size W8 w15 := HB14.out.trans hb1415
    go_wp2_with fail
    refine hK.out _ _ (.inr (HB14.out.trans hb1415)) ?_
    clear hK K
    try simp only [Act.put, lay_]
    clear HX14
    refine tk_ 16 (.bool true) [] rfl hH ?_ ?_
    ·intro V hV; go_simp
    try simp only [Act.put, lay_]
    refine tk_ 17 (.bool true) [] rfl hH ?_ ?_
    ·intro V hV; go_simp
    try simp only [Act.put, lay_]
    refine wpAnyN_done (by kernel_rfl) ?_ _
    have HEND := Lib.hid hb15
    clear hH
    go_wp2_with fail
    go_ret
    exact ⟨rfl, HEND.out⟩
end Go.Proofs.Ytfllngpncnhfnaa.Peer
end
section
namespace Go.Proofs.Ytfllngpncnhfnaa.Peer
open Go.RowKit Go.Proofs.Ytfllngpncnhfnaa.Ord
open Lex (Tx Owb rowB)
open Rec (Vt Tvs Trow txt)
open Vars (scell)
theorem dvm_lines (v : Dvm) : v.m.lines.length = v.ls.length := by show (txt v.ls).length = _; unfold txt; rw [List.length_map]
end Go.Proofs.Ytfllngpncnhfnaa.Peer
end
section
namespace Go.Proofs.Ytfllngpncnhfnaa.Peer
open Go.RowKit Go.Proofs.Ytfllngpncnhfnaa.Ord
open Lex (Tx Owb rowB)
open Rec (Vt Tvs Trow txt)
open Vars (scell)
def okB : List B := [111#8, 107#8]
def yesB : List B := [121#8, 101#8, 115#8]
def inB : List B := [104#8, 105#8, 21#8, 111#8, 107#8, 10#8]
def ru0 : Ru := ⟨0, okB, yesB, 1⟩
def pe1 : Pe := ⟨1, [], yesB, [okB]⟩
theorem fed : feedR [ru0] ⟨0, [], [], []⟩ inB = pe1 := by rfl
def dv0 : Dvm := ⟨0, [], [], [], none, 0, none, 0, none, 0⟩
theorem tx_up {w : World} {B B' : Nat} {A : Option Addr} {t : List (BitVec 8)} (h : Tx w B A t) (hB : B ≤ B') : Tx w B' A t := h.imp (fun h => h.more hB) id
theorem cell_lit (w : World) (C : Array Value) (e : TypeId) (f : Nat × Nat) (k : Nat) : (w.alloc (.cells C e f)).cell? ⟨w.heap.size, k, none⟩ = C[k]? := by
 have h : (w.alloc (.cells C e f)).heap[w.heap.size]? = some (.cells C e f) := by
  show (w.heap.push (.cells C e f))[w.heap.size]? = _
  simp
 unfold World.cell?
 rw [h]
 rfl
theorem tx_lit (w : World) (bs : List B) (f : Nat × Nat) : Tx (w.alloc (.cells (bs.map v8).toArray 5 f)) (w.heap.size + 1) (some ⟨w.heap.size, 0, none⟩) bs :=
 .inl ⟨rfl, fun _ => ⟨_, rfl, Nat.lt_succ_self _, fun j hj => by
  have h := cell_lit w (bs.map v8).toArray 5 f j
  have e : (bs.map v8).toArray[j]? = some (v8 (bs.getD j 0#8)) := by simp [hj, List.getD_eq_getElem?_getD]
  rw [e] at h
  cases j <;> simpa [Addr.add] using h⟩⟩
def mk (w : World) (bs : List B) : World := w.alloc (.cells (bs.map v8).toArray 5 (bs.length, bs.length + 1))
theorem mk_size (w : World) (bs : List B) : (mk w bs).heap.size = w.heap.size + 1 := by simp [mk]
theorem mk_below (w : World) (bs : List B) : Below w.heap.size w (mk w bs) := (Below.refl _ _).alloc (Nat.le_refl _) _
theorem mk_tx (w : World) (bs : List B) : Tx (mk w bs) (mk w bs).heap.size (some ⟨w.heap.size, 0, none⟩) bs := by rw [mk_size]; exact tx_lit w bs _
theorem mk_cv (w : World) (bs : List B) (g n : Nat) (hg : g = w.heap.size) : (convert 23 23 (.slice (some ⟨g, 0, none⟩) n n)).run Try.prog (w.alloc (.cells (bs.map v8).toArray 5)) = .ok (.slice (some ⟨g, 0, none⟩) n n) (mk w bs) := by
 subst hg
 have h := Lib.run_convert_bytes_const (P := Try.prog) w 23 5 (bs.map v8).toArray n n rfl rfl
 simpa [mk] using h
def rl0 (a b : Nat) : Rl := ⟨ru0, some ⟨a, 0, none⟩, 2, some ⟨b, 0, none⟩, 3⟩
theorem dok0 (w : World) (T : Nat) : Dok w T dv0 := ⟨.inl ⟨rfl, fun h => absurd h (by simp [dv0])⟩, .inl ⟨rfl, fun h => absurd h (by simp [dv0])⟩, ⟨fun i v hi => by simp [dv0] at hi, fun v hv => by simp [dv0] at hv⟩, Rec.trow_nil⟩
theorem knows17 (HFD : PFeed) : Knows17 := fun w => by
 go_enter Try.func7, Try.ntmps7
 obtain ⟨w1, hw1⟩ : ∃ W, W = mk w okB := ⟨_, rfl⟩
 obtain ⟨w2, hw2⟩ : ∃ W, W = mk w1 yesB := ⟨_, rfl⟩
 obtain ⟨w3, hw3⟩ : ∃ W, W = w2.alloc (.cells #[.int .i64 0, .slice (some ⟨w.heap.size, 0, none⟩) 2 2, .slice (some ⟨w1.heap.size, 0, none⟩) 3 3, .int .i64 1] 42) := ⟨_, rfl⟩
 obtain ⟨w4, hw4⟩ : ∃ W, W = mk w3 inB := ⟨_, rfl⟩
 have c1 : (convert 23 23 (.slice (some ⟨w.heap.size, 0, none⟩) 2 2)).run Try.prog (w.alloc (.cells #[.int .u8 111, .int .u8 107] 5)) = .ok (.slice (some ⟨w.heap.size, 0, none⟩) 2 2) w1 := by rw [hw1]; exact mk_cv w okB _ 2 rfl
 have c2 : (convert 23 23 (.slice (some ⟨w1.heap.size, 0, none⟩) 3 3)).run Try.prog (w1.alloc (.cells #[.int .u8 121, .int .u8 101, .int .u8 115] 5)) = .ok (.slice (some ⟨w1.heap.size, 0, none⟩) 3 3) w2 := by rw [hw2]; exact mk_cv w1 yesB _ 3 rfl
 have c3 : (convert 23 23 (.slice (some ⟨w2.heap.size + 1, 0, none⟩) 6 6)).run Try.prog ((w2.alloc (.cells #[.int .i64 0, .slice (some ⟨w.heap.size, 0, none⟩) 2 2, .slice (some ⟨w1.heap.size, 0, none⟩) 3 3, .int .i64 1] 42)).alloc (.cells #[.int .u8 104, .int .u8 105, .int .u8 21, .int .u8 111, .int .u8 107, .int .u8 10] 5)) = .ok (.slice (some ⟨w2.heap.size + 1, 0, none⟩) 6 6) w4 := by rw [hw4, ← hw3]; exact mk_cv w3 inB _ 6 (by rw [hw3]; simp)
 have s3 : w3.heap.size = w2.heap.size + 1 := by rw [hw3]; simp
 have b1 : Below w.heap.size w w1 := by rw [hw1]; exact mk_below _ _
 have b2 : Below w1.heap.size w1 w2 := by rw [hw2]; exact mk_below _ _
 have b3 : Below w2.heap.size w2 w3 := by rw [hw3]; exact (Below.refl _ _).alloc (Nat.le_refl _) _
 have b4 : Below w3.heap.size w3 w4 := by rw [hw4]; exact mk_below _ _
 have b14 : Below w1.heap.size w1 w4 := b2.trans ((b3.trans (b4.mono b3.size)).mono b2.size)
 have b24 : Below w2.heap.size w2 w4 := b3.trans (b4.mono b3.size)
 have t1 : Tx w4 w4.heap.size (some ⟨w.heap.size, 0, none⟩) okB := tx_up ((show Tx w1 w1.heap.size _ okB by rw [hw1]; exact mk_tx w okB).below (Nat.le_refl _) b14) b14.size
 have t2 : Tx w4 w4.heap.size (some ⟨w1.heap.size, 0, none⟩) yesB := tx_up ((show Tx w2 w2.heap.size _ yesB by rw [hw2]; exact mk_tx w1 yesB).below (Nat.le_refl _) b24) b24.size
 have t4 : Tx w4 w4.heap.size (some ⟨w3.heap.size, 0, none⟩) inB := by rw [hw4]; exact mk_tx w3 inB
 have hc3 : Cel w4 w2.heap.size 42 [.int .i64 0, .slice (some ⟨w.heap.size, 0, none⟩) 2 2, .slice (some ⟨w1.heap.size, 0, none⟩) 3 3, .int .i64 1] := by
  have h : Cel w3 w2.heap.size 42 [.int .i64 0, .slice (some ⟨w.heap.size, 0, none⟩) 2 2, .slice (some ⟨w1.heap.size, 0, none⟩) 3 3, .int .i64 1] := by rw [hw3]; exact Cel.new w2 _ _
  exact h.below b4 h.lt
 have hrl : Rls w4 w4.heap.size (some ⟨w2.heap.size, 0, none⟩) [rl0 w.heap.size w1.heap.size] := fun i v hi => by
  cases i with
  | zero =>
   injection hi with hi
   subst hi
   refine ⟨_, rfl, ?_, ?_, ?_, ?_, t1, t2⟩
   ·have := hc3.cell 0; simpa [Addr.add, rl0, ru0, okB, yesB] using this
   ·have := hc3.cell 1; simpa [Addr.add, rl0, ru0, okB, yesB] using this
   ·have := hc3.cell 2; simpa [Addr.add, rl0, ru0, okB, yesB] using this
   ·have := hc3.cell 3; simpa [Addr.add, rl0, ru0, okB, yesB] using this
  | succ i => cases hi
 have hw : Below w.heap.size w w4 := b1.trans (b14.mono b1.size)
 have con := HFD w4 w4.heap.size (Nat.le_refl _) (some ⟨w2.heap.size, 0, none⟩) 1 1 [rl0 w.heap.size w1.heap.size] hrl ⟨rfl, by decide, fun v hv => by simp at hv; subst hv; exact ⟨by show 2 ≤ 60; decide, by show 3 ≤ 60; decide⟩⟩ dv0 (dok0 _ _) ⟨by decide, by decide, by decide, fun l hl => by simp [dv0] at hl⟩ w4.heap.size (some ⟨w3.heap.size, 0, none⟩) 6 6 inB (t4.bs (Nat.le_refl _)) (Nat.le_refl _) (Nat.le_refl _) (by decide)
 have hres : feedR ([rl0 w.heap.size w1.heap.size].map (·.r)) dv0.m inB = pe1 := fed
 rw [hres, s3] at con
 have HW := Lib.hid hw
 have C1 := Lib.hid c1
 clear hres t1 t2 t4 hc3 hrl b1 b2 b3 b4 b14 b24 hw1 hw2 hw3 hw4 s3 hw C1
 go_upto_region 1 with fail
 go_wp2_with fail
 refine con.mono ?_
 clear con c1 c2 c3
 rintro e w5 ⟨q, rfl, hb5, hq, hqm⟩
 obtain ⟨W6, hW6⟩ : ∃ W, W = w5.alloc (.cells q.cells.toArray 26) := ⟨_, rfl⟩
 have hb6 : Below w5.heap.size w5 W6 := by rw [hW6]; exact (Below.refl _ _).alloc (Nat.le_refl _) _
 have hc6 : Cel W6 w5.heap.size 26 q.cells := by rw [hW6]; exact Cel.new w5 _ _
 have hls : q.ls.length = 1 := by have := congrArg (fun p : Pe => p.lines.length) hqm; simp only [dvm_lines] at this; exact this
 have hq0 : q.s = 1 := congrArg Pe.state hqm
 have hq1 : q.pt = [] := congrArg Pe.part hqm
 have hq2 : q.lg = yesB := congrArg Pe.log hqm
 obtain ⟨l, hl⟩ : ∃ l, q.ls = [l] := by
  cases h : q.ls with
  | nil => rw [h] at hls; cases hls
  | cons l t => cases t with
   | nil => exact ⟨l, rfl⟩
   | cons _ _ => rw [h] at hls; simp at hls
 have hlt : l.t = okB := by have := congrArg Pe.lines hqm; simp only [Dvm.m, hl, txt, List.map_cons, List.map_nil] at this; simpa [pe1] using this
 have hd6 : Dok W6 w4.heap.size q := hq.below hb5.size hb6
 have hs6 : w4.heap.size ≤ W6.heap.size := Nat.le_trans hb5.size hb6.size
 obtain ⟨ad, hA, hcl⟩ := hd6.ls.cr 0 l (by rw [hl]; rfl)
 have htl := (hd6.ls.tx l (by rw [hl]; exact List.mem_singleton_self _)).1
 have HE := Lib.hid (HW.out.trans ((hb5.trans (hb6.mono hb5.size)).mono HW.out.size))
 have K0 := Lib.hid (show W6.cell? ⟨w5.heap.size, 0, none⟩ = some (.int .i64 1) by rw [← hq0]; exact hc6.cell 0)
 have K1 := Lib.hid (show W6.cell? ⟨w5.heap.size, 1, none⟩ = some (.slice q.PA 0 q.pc) by have h := hc6.cell 1; rw [show W6.cell? ⟨w5.heap.size, 1, none⟩ = some (.slice q.PA q.pt.length q.pc) from h, hq1]; rfl)
 have K2 := Lib.hid (show W6.cell? ⟨w5.heap.size, 2, none⟩ = some (.slice q.LA 3 q.lc) by have h := hc6.cell 2; rw [show W6.cell? ⟨w5.heap.size, 2, none⟩ = some (.slice q.LA q.lg.length q.lc) from h, hq2]; rfl)
 have K3 := Lib.hid (show W6.cell? ⟨w5.heap.size, 3, none⟩ = some (.slice (some ad) 1 q.c) by have h := hc6.cell 3; rw [show W6.cell? ⟨w5.heap.size, 3, none⟩ = some (.slice q.A q.ls.length q.c) from h, hls, hA])
 have K4 := Lib.hid (show W6.cell? ad = some (.slice l.A 2 l.c) by have h : W6.cell? (ad.add 0) = some (.slice l.A l.t.length l.c) := hcl; rw [hlt] at h; simpa [Addr.add, okB] using h)
 have F1 := Lib.hid (show (convert 23 9 (.slice q.LA 3 q.lc)).run Try.prog W6 = .ok (.string ⟨#[121, 101, 115]⟩) W6 by have h := hd6.lg.str hs6 q.lc 0; rw [hq2] at h; exact h)
 have F2 := Lib.hid (show (convert 23 9 (.slice l.A 2 l.c)).run Try.prog W6 = .ok (.string ⟨#[111, 107]⟩) W6 by have h := htl.str hs6 l.c 0; rw [hlt] at h; exact h)
 clear hq hqm hd6 hb5 hb6 hc6 hls hq0 hq1 hq2 hl hlt hA hcl htl
 unfold Dvm.cells at hW6 ⊢
 dsimp only at hW6 ⊢
 go_upto_region 2 with fail
 rw [← hW6]
 clear hW6
 have k0 := K0.out
 have k1 := K1.out
 have k2 := K2.out
 have k3 := K3.out
 have k4 := K4.out
 have f1 := F1.out
 have f2 := F2.out
 go_wp2_with fail
 go_ret
 exact ⟨rfl, HE.out⟩
end Go.Proofs.Ytfllngpncnhfnaa.Peer
end
