/-
Layer 17: the walk of PeerParts. (Written by gen_peerparts.py.)
-/
import Derived.Test.YtfllngpncnhfnaaWp0
import Derived.Test.YtfllngpncnhfnaaWp1
import Derived.Test.YtfllngpncnhfnaaWp2
set_option linter.unusedVariables false
set_option linter.unusedSimpArgs false
set_option maxRecDepth 100000
set_option maxHeartbeats 8000000
namespace Go.Proofs.Ytfllngpncnhfnaa.Ord
end Go.Proofs.Ytfllngpncnhfnaa.Ord
namespace Go.Proofs.Ytfllngpncnhfnaa.Peer
open Go.RowKit Go.Proofs.Ytfllngpncnhfnaa.Ord
open Lex (Tx Owb rowB)
open Rec (Vt Tvs Trow txt)
open Vars (scell)
theorem owb_bs {w : World} {D : Nat} {A : Option Addr} {n c : Nat} {x : List B} (h : Owb w D A n c x) : Bs w w.heap.size A n x := Bs.of_own h rfl
theorem owb_cap {w : World} {D : Nat} {A : Option Addr} {n c : Nat} {x : List B} (h : Owb w D A n c x) : n ≤ c := by
 rcases h.2 with ⟨e, _⟩ | ⟨g, cap, cur, e, _, _, h1, h2, _⟩
 ·injection e with _ e1 e2; omega
 ·injection e with _ e1 e2; omega
theorem lit21 (w : World) : Owb (w.alloc (.cells #[v8 21#8] 5)) w.heap.size (some ⟨w.heap.size, 0, none⟩) 1 1 [21#8] := World.ownsRow_lit w #[v8 21#8] 1 (Nat.le_refl _) (by decide) rfl
theorem lit0 (w : World) : Owb (w.alloc (.cells #[] 5)) w.heap.size (some ⟨w.heap.size, 0, none⟩) 0 0 [] := World.ownsRow_lit w #[] 0 (Nat.le_refl _) (Nat.zero_le _) rfl
theorem wp_app {P : Program} {o : Oper} {a : Act} {w : World} {K : Act → World → Prop} {Q : Exit → Act → World → Prop} (s x : Operand) (t : TypeId)
  (ho : o.op = .call { callee := .builtin .append, args := #[s, x], argTypes := #[t, t] }) (base : Nat) (e : TypeId) (hT : ByteRow P t e)
  (v : Value) (n : Nat) (bs : List B) (hs : a.eval s = v) (hown : w.ownsRow base e 1 v n (bs.map v8))
  (D : Nat) (A : Option Addr) (m c : Nat) (cs : List B) (hx : a.eval x = .slice A m c) (hr : Bs w D A m cs) (n' : Nat) (bs' : List B) (hn' : n + m = n') (hbs' : bs ++ cs = bs') (h47 : n' ≤ 140737488355328) (hbase : base ≤ w.heap.size)
  (h : ∀ A' c' w', w'.ownsRow base e 1 (.slice A' n' c') n' (bs'.map v8) → w.grownBy w' v.ownBlock → K (a.put o.dst (.slice A' n' c')) w') : o.wp P a w K Q := by
 subst hn' hbs'
 exact wp_append_bs w s x t ho base e hT v n bs hs hown D A m c cs hx hr h47 hbase fun A' c' w' h2 h3 _ => h A' c' w' h2 h3
theorem dvm_lines (v : Dvm) : v.m.lines.length = v.ls.length := by show (txt v.ls).length = _; unfold txt; rw [List.length_map]
theorem dfew_of {vs : List Rl} {n : Nat} (hr : Rfew vs n) {v q : Dvm} (hv : Dfew v) {bs : List B} (hq : q.m = feedR (vs.map (·.r)) v.m bs) (hb : bs.length ≤ 700) (hl : v.ls.length + bs.length ≤ 700) (hlg : v.lg.length ≤ 50000) : Dfew q ∧ q.lg.length ≤ v.lg.length + 60 * bs.length ∧ q.ls.length ≤ v.ls.length + bs.length := by
 have h := feed_dfew hr (p := v.m) hv.1 bs (fun l hl => by
  obtain ⟨x, hx, rfl⟩ := List.mem_map.1 (show l ∈ v.ls.map (·.t) from hl)
  exact hv.2.2.2 x hx)
 rw [← hq, dvm_lines] at h
 obtain ⟨h1, h2, h3, h4⟩ := h
 rw [dvm_lines] at h3
 have h2' : q.lg.length ≤ v.lg.length + 60 * bs.length := h2
 exact ⟨⟨h1, by omega, by omega, fun l hm => h4 l.t (List.mem_map_of_mem hm)⟩, h2', h3⟩
theorem parts_walk (HFD : PFeed) (HKN : Knows17) (w : World) (AR : Option Addr) (n c : Nat) (vs : List Rl) (hr : Rls w w.heap.size AR vs) (hl : vs.length = n) (hn : n ≤ maxLen) (hf : ∀ v ∈ vs, v.r.line.length ≤ maxLen ∧ v.r.out.length ≤ maxLen)
  (v : Dvm) (hd : Dok w w.heap.size v) (hd1 : v.ls.length ≤ maxLen) (hd2 : v.pt.length ≤ maxLen) (hd3 : v.lg.length ≤ maxLen) (AB : Option Addr) (m cb : Nat) (bs : List B) (hb : Bs w w.heap.size AB m bs) (hm : m ≤ cb) (hcb : cb ≤ maxLen) (AC : Option Addr) (k cc : Nat) (cs : List B) (hc : Bs w w.heap.size AC k cs) (hk : k ≤ cc) (hcc : cc ≤ maxLen) :
  Calls Try.prog 4 #[.slice AR n c, .agg v.cells.toArray, .slice AB m cb, .slice AC k cc] w fun e w' => e = .returned (.bool true) ∧ Below w.heap.size w w' := by
 unfold maxLen at hcb hcc
 obtain ⟨T, hT⟩ : ∃ T, T = w.heap.size := ⟨_, rfl⟩
 rw [← hT] at hr hd
 have hTw : T ≤ w.heap.size := by omega
 obtain ⟨W1, hW1⟩ : ∃ w1, w1 = w.alloc (.cells v.cells.toArray 26) := ⟨_, rfl⟩
 have hb1 : Below w.heap.size w W1 := by rw [hW1]; exact (Below.refl _ _).alloc (Nat.le_refl _) _
 have hc1 : Cel W1 w.heap.size 26 v.cells := by rw [hW1]; exact Cel.new w _ _
 have HTW := Lib.hid (show ∀ V, Below w.heap.size w V → T ≤ V.heap.size from fun V h => Nat.le_trans hTw h.size)
 have HR := Lib.hid (show ∀ V, Below w.heap.size w V → Rls V T AR vs from fun V h => hr.below hTw h)
 have HD := Lib.hid (show ∀ V, Below w.heap.size w V → Dok V T v from fun V h => hd.below hTw h)
 have HBS := Lib.hid (show ∀ V, Below w.heap.size w V → Bs V w.heap.size AB m bs from fun V h => hb.below h)
 have HCS := Lib.hid (show ∀ V, Below w.heap.size w V → Bs V w.heap.size AC k cs from fun V h => hc.below h)
 have HBL := Lib.hid hb.len
 have HCL := Lib.hid hc.len
 have HL := Lib.hid hl
 have HK0 := Lib.hid HKN
 have KN := Lib.hid (show ∀ W : World, Below w.heap.size w W → Calls Try.prog 7 #[] W fun e w' => e = .returned (.bool true) ∧ Below w.heap.size w w' from fun W hW => (HKN W).mono fun e w' h => ⟨h.1, hW.trans (h.2.mono hW.size)⟩)
 have con := fewRules W1 T AR n c vs (hr.below hTw hb1) (Nat.le_trans hTw hb1.size) hl hn hf
 have CON2 := Lib.hid (fun W => fun h : Below w.heap.size w W => fewPeer W T v.s v.PA v.pt.length v.pc v.LA v.lg.length v.lc v.A v.ls.length v.c v.ls (hd.ls.below hTw h) (Nat.le_trans hTw h.size) rfl hd1 hd2 hd3)
 have HB1 := Lib.hid hb1
 have HC1 := Lib.hid hc1
 clear hb1 hc1 hr hd hb hc hf HKN hl hT hTw
 go_enter Try.func4, Try.ntmps4
 go_upto_region 1 with fail
 rw [← hW1]
 clear hW1
 go_wp2_with fail
 refine con.mono ?_
 clear con
 rintro e w2 ⟨b1, rfl, hb2, hx1⟩
 have HB2 := Lib.hid (HB1.out.trans (hb2.mono HB1.out.size))
 have HC2 := Lib.hid (HC1.out.below hb2 HC1.out.lt)
 have HX1 := Lib.hid hx1
 clear hb2 hx1 HC1 HB1
 cases b1 with
 | false =>
  go_wp2_with fail
  refine (KN.out _ HB2.out).mono ?_
  rintro e wk ⟨rfl, hbk⟩
  have HBK := Lib.hid hbk
  clear hbk
  go_wp2_with fail
  go_ret
  exact ⟨rfl, HBK.out⟩
 | true =>
  have con := CON2.out w2 HB2.out
  obtain ⟨k0, k1, k2, k3⟩ := cells4 HC2.out
  go_wp2_with fail
  refine con.mono ?_
  clear con k0 k1 k2 k3
  rintro e w3 ⟨b2, rfl, hb3, hx2⟩
  have HB3 := Lib.hid (HB2.out.trans (hb3.mono HB2.out.size))
  have HC3 := Lib.hid (HC2.out.below hb3 HC2.out.lt)
  have HX2 := Lib.hid hx2
  clear hb3 hx2 HC2 HB2
  cases b2 with
  | false =>
   go_wp2_with fail
   refine (KN.out _ HB3.out).mono ?_
   rintro e wk ⟨rfl, hbk⟩
   have HBK := Lib.hid hbk
   clear hbk
   go_wp2_with fail
   go_ret
   exact ⟨rfl, HBK.out⟩
  | true =>
   by_cases h8 : 300 < m
   ·have dd : decide ((300 : Int) < (m : Int)) = true := by simp; omega
    go_wp2_with fail
    refine (KN.out _ HB3.out).mono ?_
    rintro e wk ⟨rfl, hbk⟩
    have HBK := Lib.hid hbk
    clear hbk
    go_wp2_with fail
    go_ret
    exact ⟨rfl, HBK.out⟩
   have dd : decide ((300 : Int) < (m : Int)) = false := by simp; omega
   by_cases h9 : 300 < k
   ·have dd2 : decide ((300 : Int) < (k : Int)) = true := by simp; omega
    go_wp2_with fail
    refine (KN.out _ HB3.out).mono ?_
    rintro e wk ⟨rfl, hbk⟩
    have HBK := Lib.hid hbk
    clear hbk
    go_wp2_with fail
    go_ret
    exact ⟨rfl, HBK.out⟩
   have dd2 : decide ((300 : Int) < (k : Int)) = false := by simp; omega
   obtain ⟨q1, q2⟩ := HX1.out (by first | rfl | trivial)
   obtain ⟨p1, p2, p3, p4⟩ := HX2.out (by first | rfl | trivial)
   have HRF : Hid (Rfew vs n) := Lib.hid ⟨HL.out, q1, q2⟩
   have HDF : Hid (Dfew v) := Lib.hid ⟨by omega, by omega, by omega, fun l hl => by have := p4 l hl; omega⟩
   have HP3 := Lib.hid p3
   have HP1 := Lib.hid p1
   have HXB := Lib.hid (HBS.out _ HB3.out)
   have HXC := Lib.hid (HCS.out _ HB3.out)
   clear q1 q2 p1 p2 p3 p4 HX1 HX2
   obtain ⟨k0, k1, k2, k3⟩ := cells4 HC3.out
   go_upto_region 4 with (first
    | (at_builtin; refine wpList_append_new _ rfl _ _ 23 rfl 5 rowB rfl w.heap.size AB m cb bs rfl HXB.out HB3.out.size (by omega) ?_; intro A4 c4 w4 ho4 hb4; have HO4 := Lib.hid (show Owb w4 w3.heap.size A4 m c4 bs from ho4); have HB4 := Lib.hid hb4; have HY4 := Lib.hid (HXC.out.below (hb4.mono HB3.out.size)); clear ho4 hb4)
    | (at_builtin; refine wpList_append_bs _ rfl _ _ 23 rfl w3.heap.size 5 rowB (.slice A4 m c4) m bs rfl HO4.out w.heap.size AC k cc cs rfl HY4.out (m + k) (bs ++ cs) rfl rfl (by omega) HB4.out.size ?_; intro A6 c6 w6 ho6 hg6 _; have HO6 := Lib.hid (show Owb w6 w3.heap.size A6 (m + k) c6 (bs ++ cs) from ho6); have HB6 := Lib.hid (HB4.out.trans (Lex.Owb.grew HO4.out hg6 HB4.out.size)); clear ho6 hg6))
   have hbw6 := HB3.out.trans (HB6.out.mono HB3.out.size)
   have HBW := Lib.hid hbw6
   have HC6 := Lib.hid (HC3.out.below HB6.out HC3.out.lt)
   have HALL := Lib.hid (show ∀ V, Below w6.heap.size w6 V → Bs V w6.heap.size A6 (m + k) (bs ++ cs) from fun V hV => (owb_bs HO6.out).below hV)
   have HCAP := Lib.hid (owb_cap HO6.out)
   clear dd dd2 hbw6 k0 k1 k2 k3 HO4 HB4 HY4 HXB HXC HC3 HO6 HB6 HB3
   have con := HFD w6 T (HTW.out _ HBW.out) AR n c vs (HR.out _ HBW.out) HRF.out v (HD.out _ HBW.out) HDF.out w.heap.size AB m cb bs (HBS.out _ HBW.out) HBW.out.size hm (by omega)
   obtain ⟨k0, k1, k2, k3⟩ := cells4 HC6.out
   go_wp2_with fail
   refine con.mono ?_
   clear con k0 k1 k2 k3
   rintro e w7 ⟨q, rfl, hb7, hq, hqm⟩
   have HB7 := Lib.hid hb7
   have HBW7 := Lib.hid (HBW.out.trans (hb7.mono HBW.out.size))
   have hqf := dfew_of HRF.out HDF.out hqm (by rw [HBL.out]; omega) (by have := HP1.out; rw [HBL.out]; omega) (by have := HP3.out; omega)
   rw [HBL.out] at hqf
   have con := HFD w7 T (HTW.out _ HBW7.out) AR n c vs (HR.out _ HBW7.out) HRF.out q hq hqf.1 w.heap.size AC k cc cs (HCS.out _ HBW7.out) HBW7.out.size hk (by omega)
   rw [hqm, ← feed_append] at con
   have HQF := Lib.hid hqf
   clear hb7 hq hqm hqf
   go_wp2_with fail
   refine con.mono ?_
   clear con
   rintro e w8 ⟨x, rfl, hb8, hx, hxm⟩
   have HB8 := Lib.hid (HB7.out.trans (hb8.mono HB7.out.size))
   obtain ⟨W9, hW9⟩ : ∃ W, W = w8.alloc (.cells x.cells.toArray 26) := ⟨_, rfl⟩
   have hb9 : Below w8.heap.size w8 W9 := by rw [hW9]; exact (Below.refl _ _).alloc (Nat.le_refl _) _
   have hc9 : Cel W9 w8.heap.size 26 x.cells := by rw [hW9]; exact Cel.new w8 _ _
   obtain ⟨WA, hWA⟩ : ∃ W, W = W9.drew := ⟨_, rfl⟩
   have hb6A : Below w6.heap.size w6 WA := by rw [hWA]; exact (HB8.out.trans (hb9.mono HB8.out.size)).drew
   have HBA := Lib.hid (HBW.out.trans (hb6A.mono HBW.out.size))
   have HB6A := Lib.hid hb6A
   have HCA := Lib.hid (HC6.out.below hb6A HC6.out.lt)
   have HXA := Lib.hid (show Cel WA w8.heap.size 26 x.cells by rw [hWA]; exact hc9.drew)
   have HDX := Lib.hid (show ∀ V, Below WA.heap.size WA V → Dok V T x from fun V hV => by
    have h1 := HTW.out _ (HBW.out.trans (HB8.out.mono HBW.out.size))
    have h2 : Below w8.heap.size w8 WA := by rw [hWA]; exact hb9.drew
    exact hx.below h1 (h2.trans (hV.mono h2.size)))
   have HXM := Lib.hid hxm
   have HXL : Hid (x.ls.length ≤ 620) := Lib.hid (by
    have h1 := dfew_of HRF.out HDF.out hxm (by rw [List.length_append, HBL.out, HCL.out]; omega) (by have := HP1.out; rw [List.length_append, HBL.out, HCL.out]; omega) (by have := HP3.out; omega)
    have := h1.2.2
    have := HP1.out
    rw [List.length_append, HBL.out, HCL.out] at *
    omega)
   unfold Dvm.cells at hW9 ⊢
   dsimp only at hW9 ⊢
   clear hb8 hx hxm hb9 hc9 hb6A HB7 HBW7 HQF HB8 HC6
   go_upto_region 5 with fail
   rw [← hW9]
   clear hW9
   generalize w8.heap.size = gx at *
   refine Ord.wp_region_N [] (fun V => Below WA.heap.size WA V) (by kernel_rfl) ?_
   rw [← hWA]
   have hH : Below WA.heap.size WA WA := Below.refl _ _
   clear hWA
   refine wpAnyN_take (i := 0) (v := .agg x.cells.toArray) [] (by kernel_rfl) rfl (by kernel_rfl) (by kernel_rfl) (by kernel_rfl) (fun _ _ _ h => h) (yieldsIf_load_mid (by rfl) _ _ rfl gx 0 rfl x.cells _ (fun V hV => fun j u hu => by rw [Nat.zero_add, (HXA.out.below hV HXA.out.lt).cell j, hu]) Try.underlying26 rfl (show _ = some 4 by kernel_rfl)) hH ?_
   try simp only [Act.put, lay_]
   refine tk_ 2 (.slice AR n c) [] rfl hH ?_ ?_
   ·intro V hV; go_simp
   try simp only [Act.put, lay_]
   refine wpAnyN_take (i := 3) (v := .agg v.cells.toArray) [] (by kernel_rfl) rfl (by kernel_rfl) (by kernel_rfl) (by kernel_rfl) (fun _ _ _ h => h) (yieldsIf_load_mid (by rfl) _ _ rfl w.heap.size 0 rfl v.cells _ (fun V hV => fun j u hu => by rw [Nat.zero_add, (HCA.out.below hV HCA.out.lt).cell j, hu]) Try.underlying26 rfl (show _ = some 4 by kernel_rfl)) hH ?_
   try simp only [Act.put, lay_]
   refine tk_ 4 (.slice A6 (m + k) c6) [] rfl hH ?_ ?_
   ·intro V hV; go_simp
   try simp only [Act.put, lay_]
   refine wpAnyN_one (i := 1) (by kernel_rfl) rfl (fun K hK => ?_)
   go_simp
   refine (as17v WA T x (HDX.out _ hH) (HTW.out _ HBA.out) (by have := HXL.out; omega)).mono ?_
   rintro e wb ⟨Ab, cb2, rfl, hlnb, hbb⟩
   go_wp2_with fail
   refine hK.out _ _ (.inr hbb) ?_
   clear hK K
   try simp only [Act.put, lay_]
   have HBB := Lib.hid hbb
   have HXB := Lib.hid (HBA.out.trans (hbb.mono HBA.out.size))
   have HNB := Lib.hid hlnb
   clear hbb hlnb hH
   have con := HFD wb T (HTW.out _ HXB.out) AR n c vs (HR.out _ HXB.out) HRF.out v (HD.out _ HXB.out) HDF.out w6.heap.size A6 (m + k) c6 (bs ++ cs) (HALL.out _ (HB6A.out.trans (HBB.out.mono HB6A.out.size))) (HB6A.out.trans (HBB.out.mono HB6A.out.size)).size HCAP.out (by omega)
   rw [← HXM.out] at con
   have CON := Lib.hid con
   clear con
   refine wpAnyN_one (i := 5) (by kernel_rfl) rfl (fun K hK => ?_)
   go_simp
   refine (CON.out).mono ?_
   rintro e wc ⟨y, rfl, hbc, hy, hym⟩
   go_wp2_with fail
   refine hK.out _ _ (.inr (HBB.out.trans (hbc.mono HBB.out.size))) ?_
   clear hK K
   try simp only [Act.put, lay_]
   have HBC := Lib.hid (HBB.out.trans (hbc.mono HBB.out.size))
   have HXC := Lib.hid (HBA.out.trans (HBC.out.mono HBA.out.size))
   have HNC := Lib.hid (Ry.below HNB.out hbc)
   have HY := Lib.hid hy
   have HYM := Lib.hid hym
   have hyl : y.ls.length = x.ls.length := by have e := congrArg (fun p : Pe => p.lines.length) hym; simp only [dvm_lines] at e; exact e
   have HYL := Lib.hid hyl
   clear hbc hy hym HBB HXB HNB CON hyl
   refine wpAnyN_one (i := 6) (by kernel_rfl) rfl (fun K hK => ?_)
   go_simp
   refine (as17v wc T y HY.out (HTW.out _ HXC.out) (by have := HXL.out; have := HYL.out; omega)).mono ?_
   rintro e wd ⟨Ad, cd, rfl, hlnd, hbd⟩
   go_wp2_with fail
   refine hK.out _ _ (.inr (HBC.out.trans (hbd.mono HBC.out.size))) ?_
   clear hK K
   try simp only [Act.put, lay_]
   have HBD := Lib.hid (HBC.out.trans (hbd.mono HBC.out.size))
   have HND := Lib.hid (Ry.below HNC.out hbd)
   have hyx : txt y.ls = txt x.ls := congrArg Pe.lines HYM.out
   have e1 : y.s = x.s := congrArg Pe.state HYM.out
   have e2 : y.pt = x.pt := congrArg Pe.part HYM.out
   have e3 : y.lg = x.lg := congrArg Pe.log HYM.out
   have HMD := Lib.hid (show Lnr wd Ad (txt x.ls) by rw [← hyx]; exact hlnd)
   clear hbd hlnd HBC HXC HNC
   rw [HYL.out, e1, e2, e3]
   clear e1 e2 e3 hyx
   refine wpAnyN_one (i := 7) (by kernel_rfl) rfl (fun K hK => ?_)
   go_simp
   refine (same17p wd x.m Ab Ad x.ls.length cb2 cd HND.out HMD.out (dvm_lines x) (by have := HXL.out; omega)).mono ?_
   rintro e we ⟨rfl, hbe⟩
   go_wp2_with fail
   refine hK.out _ _ (.inr (HBD.out.trans (hbe.mono HBD.out.size))) ?_
   clear hK K
   try simp only [Act.put, lay_]
   have HBE := Lib.hid (HBD.out.trans (hbe.mono HBD.out.size))
   have hH := HBE.out
   clear hbe HBD HND HMD
   refine tk_ 8 (.bool false) [] rfl hH ?_ ?_
   ·intro V hV; go_simp
   try simp only [Act.put, lay_]
   refine wpAnyN_done (by kernel_rfl) ?_ _
   have HBF := Lib.hid (HBA.out.trans (hH.mono HBA.out.size))
   have HCF := Lib.hid (HCA.out.below hH HCA.out.lt)
   clear hH HBE HDX HXA HXM HXL HY HYM HYL HALL HCAP HB6A HBA HCA HBW
   go_wp2_with fail
   go_loopw [11] (fun v11 wr => ∃ (i : Nat), i ≤ m ∧ v11 = .int .i64 (i : Int) ∧ we = wr ∧ Hid (∀ b ∈ bs.take i, b ≠ 10#8)) (fun v11 _ => m - (intOf v11).toNat)
   case atStart => exact ⟨0, Nat.zero_le _, rfl, rfl, Lib.hid (by simp)⟩
   case round =>
    obtain ⟨i, hi, rfl, rfl, HI⟩ := hrel
    rcases Nat.lt_or_ge i m with hlt | hge
    ·obtain ⟨ad, hA, _, kb⟩ := (HBS.out _ HBF.out).at_ hlt
     have HAE := Lib.hid hA
     subst hA
     obtain ⟨b, hbb⟩ : ∃ b, bs[i]? = some b := ⟨_, List.getElem?_eq_getElem (by rw [HBL.out]; exact hlt)⟩
     rw [List.getD_eq_getElem?_getD, hbb] at kb
     change _ = some (Value.int .u8 (b.toNat : Int)) at kb
     have HBB := Lib.hid hbb
     clear hbb
     by_cases hx : b = 10#8
     ·have dx : ((b.toNat : Int) == 10) = true := by subst hx; rfl
      go_wp2_with fail
      refine (KN.out _ HBF.out).mono ?_
      rintro e wk ⟨rfl, hbk⟩
      have HBK := Lib.hid hbk
      clear hbk
      go_wp2_with fail
      go_ret
      exact ⟨rfl, HBK.out⟩
     ·have dx : ((b.toNat : Int) == 10) = false := by
       simp
       intro e
       exact hx (BitVec.eq_of_toNat_eq (by simpa using (by omega : b.toNat = 10)))
      have HX := Lib.hid hx
      clear hx
      go_wp2_with fail
      refine ⟨⟨i + 1, by omega, by rw [show ((i + 1 : Nat) : Int) = (i : Int) + 1 by omega], by trivial, Lib.hid fun u hu => ?_⟩, by simp [intOf]; omega⟩
      rcases Rec.mem_take HBB.out hu with hu | rfl
      ·exact HI.out u hu
      ·exact HX.out
    ·have HNO := Lib.hid (show ∀ b ∈ bs, b ≠ 10#8 by have h := HI.out; rw [List.take_of_length_le (by rw [HBL.out]; exact hge)] at h; exact h)
     clear HI
     have HXC := Lib.hid (HCS.out _ HBF.out)
     obtain ⟨k0, k1, k2, k3⟩ := cells4 HCF.out
     go_upto_region 13 with (at_builtin; refine wpList_append_bs _ rfl _ _ 23 rfl we.heap.size 5 rowB (.slice (some ⟨we.heap.size, 0, none⟩) 1 1) 1 [21#8] rfl (lit21 we) w.heap.size AC k cc cs rfl (HXC.out.alloc HBF.out.size _) (1 + k) (21#8 :: cs) rfl rfl (by omega) (by simp) ?_; intro A6 c6 w6 ho6 hg6 _; have HO6 := Lib.hid (show Owb w6 we.heap.size A6 (1 + k) c6 (21#8 :: cs) from ho6); have HB6 := Lib.hid (((Below.refl we.heap.size we).alloc (Nat.le_refl _) (.cells #[v8 21#8] 5)).trans (Lex.Owb.grew (lit21 we) hg6 (by simp))); clear ho6 hg6)
     have hbw := HBF.out.trans (HB6.out.mono HBF.out.size)
     have HBG := Lib.hid hbw
     have HCG := Lib.hid (HCF.out.below HB6.out HCF.out.lt)
     have HKL := Lib.hid (show ∀ V, Below w6.heap.size w6 V → Bs V w6.heap.size A6 (1 + k) (21#8 :: cs) from fun V hV => (owb_bs HO6.out).below hV)
     have HKC := Lib.hid (owb_cap HO6.out)
     clear hbw k0 k1 k2 k3 HO6 HB6 HXC HCF HBF
     have con := HFD w6 T (HTW.out _ HBG.out) AR n c vs (HR.out _ HBG.out) HRF.out v (HD.out _ HBG.out) HDF.out w6.heap.size A6 (1 + k) c6 (21#8 :: cs) (HKL.out _ (Below.refl _ _)) (Nat.le_refl _) HKC.out (by omega)
     obtain ⟨k0, k1, k2, k3⟩ := cells4 HCG.out
     go_wp2_with fail
     refine con.mono ?_
     clear con k0 k1 k2 k3
     rintro e w7 ⟨y, rfl, hb7, hy, hym⟩
     obtain ⟨W8, hW8⟩ : ∃ W, W = w7.alloc (.cells y.cells.toArray 26) := ⟨_, rfl⟩
     have hb8 : Below w7.heap.size w7 W8 := by rw [hW8]; exact (Below.refl _ _).alloc (Nat.le_refl _) _
     have hc8 : Cel W8 w7.heap.size 26 y.cells := by rw [hW8]; exact Cel.new w7 _ _
     obtain ⟨WD, hWD⟩ : ∃ W, W = W8.drew := ⟨_, rfl⟩
     have hb6D : Below w6.heap.size w6 WD := by rw [hWD]; exact (hb7.trans (hb8.mono hb7.size)).drew
     have HBD := Lib.hid (HBG.out.trans (hb6D.mono HBG.out.size))
     have HB6D := Lib.hid hb6D
     have HCD := Lib.hid (HCG.out.below hb6D HCG.out.lt)
     have HYD := Lib.hid (show Cel WD w7.heap.size 26 y.cells by rw [hWD]; exact hc8.drew)
     have HDY := Lib.hid (show ∀ V, Below WD.heap.size WD V → Dok V T y from fun V hV => by
      have h1 := HTW.out _ (HBG.out.trans (hb7.mono HBG.out.size))
      have h2 : Below w7.heap.size w7 WD := by rw [hWD]; exact hb8.drew
      exact hy.below h1 (h2.trans (hV.mono h2.size)))
     have HYM := Lib.hid hym
     have HYL : Hid (y.ls.length ≤ 600) := Lib.hid (by
      have h1 := (dfew_of HRF.out HDF.out hym (by rw [List.length_cons, HCL.out]; omega) (by have := HP1.out; rw [List.length_cons, HCL.out]; omega) (by have := HP3.out; omega)).2.2
      rw [List.length_cons, HCL.out] at h1
      have := HP1.out
      omega)
     unfold Dvm.cells at hW8 ⊢
     dsimp only at hW8 ⊢
     clear hb7 hb8 hc8 hb6D hy hym HCG
     go_upto_region 14 with fail
     rw [← hW8]
     clear hW8
     generalize w7.heap.size = gy at *
     obtain ⟨S0, hS0⟩ : ∃ q, q = WD.heap.size := ⟨_, rfl⟩
     have HBW := Lib.hid (show ∀ V, Below S0 WD V → Below w.heap.size w V from fun V hV => HBD.out.trans (hV.mono (by rw [hS0]; exact HBD.out.size)))
     have HB6 := Lib.hid (show ∀ V, Below S0 WD V → Below w6.heap.size w6 V from fun V hV => HB6D.out.trans (hV.mono (by rw [hS0]; exact HB6D.out.size)))
     have HSV := Lib.hid (show ∀ V, Below S0 WD V → S0 ≤ V.heap.size from fun V hV => by rw [hS0]; exact hV.size)
     have HCV := Lib.hid (show ∀ V, Below S0 WD V → Cel V w.heap.size 26 v.cells from fun V hV => by rw [hS0] at hV; exact HCD.out.below hV HCD.out.lt)
     have HYV := Lib.hid (show ∀ V, Below S0 WD V → Cel V gy 26 y.cells from fun V hV => by rw [hS0] at hV; exact HYD.out.below hV HYD.out.lt)
     have HDV := Lib.hid (show ∀ V, Below S0 WD V → Dok V T y from fun V hV => by rw [hS0] at hV; exact HDY.out V hV)
     have HS0 := Lib.hid (show Below S0 WD WD from Below.refl _ _)
     have HTS := Lib.hid (show T ≤ S0 by rw [hS0]; exact HTW.out _ HBD.out)
     clear hS0
     go_cut [14] from 74 to 81 (fun s14 wx => ∃ (g : Nat) (z : Dvm), s14 = .pointer (some ⟨g, 0, none⟩) ∧ Below S0 WD wx ∧ Cel wx g 26 z.cells ∧ Dok wx T z ∧ z.m = feedR (vs.map (·.r)) v.m (bs ++ 21#8 :: cs))
     case first =>
      refine wp_region_N [] (Below S0 WD) (by kernel_rfl) ?_
      rw [← hWD]
      have hH : Below S0 WD WD := HS0.out
      clear hWD
      refine tk_ 0 (.slice AR n c) [] rfl hH ?_ ?_
      ·intro V hV; go_simp
      try simp only [Act.put, lay_]
      refine wpAnyN_take (i := 1) (v := .agg v.cells.toArray) [] (by kernel_rfl) rfl (by kernel_rfl) (by kernel_rfl) (by kernel_rfl) (fun _ _ _ h => h) (yieldsIf_load_mid (by rfl) _ _ rfl w.heap.size 0 rfl v.cells _ (fun V hV => fun j u hu => by rw [Nat.zero_add, (HCV.out V hV).cell j, hu]) Try.underlying26 rfl (show _ = some 4 by kernel_rfl)) hH ?_
      try simp only [Act.put, lay_]
      refine tk_ 3 (.slice AB m cb) [] rfl hH ?_ ?_
      ·intro V hV; go_simp
      try simp only [Act.put, lay_]
      refine tk_ 5 (.slice A6 (1 + k) c6) [] rfl hH ?_ ?_
      ·intro V hV; go_simp
      try simp only [Act.put, lay_]
      refine wpAnyN_two (i := 2) (j := 8) (by kernel_rfl) rfl rfl (fun K hK => ?_) (fun K hK => ?_)
      ·skip
       go_simp
       obtain ⟨V1a, hN⟩ : ∃ W, W = WD.alloc (.cells #[] 5) := ⟨_, rfl⟩
       have hbN : Below WD.heap.size WD V1a := by rw [hN]; exact (Below.refl _ _).alloc (Nat.le_refl _) _
       have HO := Lib.hid (show Owb V1a WD.heap.size (some ⟨WD.heap.size, 0, none⟩) 0 0 [] by rw [hN]; exact lit0 WD)
       have HSZ := Lib.hid (HSV.out _ hH)
       have hH := hH.trans (hbN.mono (HSV.out _ hH))
       rw [← hN]
       have hbq := hbN.size
       refine hK.out _ _ (.inr hH) ?_
       clear hK K hN hbN
       try simp only [Act.put, lay_]
       obtain ⟨KB, hKB⟩ : ∃ q, q = WD.heap.size := ⟨_, rfl⟩
       rw [← hKB] at HO HSZ ⊢
       have HKS := Lib.hid (show S0 ≤ KB from HSZ.out)
       have HKB := Lib.hid (show KB ≤ V1a.heap.size by rw [hKB]; exact hbq)
       clear hKB hbq HSZ
       refine wpAnyN_two (i := 4) (j := 8) (by kernel_rfl) rfl rfl (fun K hK => ?_) (fun K hK => ?_)
       ·skip
        rw [if_pos (by rfl)]
        refine wp_app _ _ 23 rfl KB 5 rowB (.slice (some ⟨KB, 0, none⟩) 0 0) 0 [] rfl HO.out w.heap.size AB m cb bs rfl (HBS.out _ (HBW.out _ hH)) m bs (Nat.zero_add _) rfl (by omega) HKB.out ?_
        intro A9 c9 V2a hoN hgN
        have hbN : Below KB V1a V2a := Lex.Owb.grew HO.out hgN HKB.out
        have HZS := Lib.hid hgN.size
        have HO := Lib.hid (show Owb V2a KB A9 m c9 bs from hoN)
        have hH : Below S0 WD V2a := hH.trans (hbN.mono HKS.out)
        have HKB := Lib.hid (Nat.le_trans HKB.out HZS.out)
        clear hoN hgN hbN HZS
        refine hK.out _ _ (.inr hH) ?_
        clear hK K
        try simp only [Act.put, lay_]
        refine wpAnyN_two (i := 6) (j := 8) (by kernel_rfl) rfl rfl (fun K hK => ?_) (fun K hK => ?_)
        ·skip
         rw [if_pos (by rfl)]
         refine wp_app _ _ 23 rfl KB 5 rowB (.slice A9 m c9) m bs rfl HO.out w6.heap.size A6 (1 + k) c6 (21#8 :: cs) rfl (HKL.out _ (HB6.out _ hH)) (m + (1 + k)) (bs ++ 21#8 :: cs) rfl rfl (by omega) HKB.out ?_
         intro AZ cZ V3a hoN hgN
         have hbN : Below KB V2a V3a := Lex.Owb.grew HO.out hgN HKB.out
         have HZS := Lib.hid hgN.size
         have HO := Lib.hid (show Owb V3a KB AZ (m + (1 + k)) cZ (bs ++ 21#8 :: cs) from hoN)
         have hH : Below S0 WD V3a := hH.trans (hbN.mono HKS.out)
         have HKB := Lib.hid (Nat.le_trans HKB.out HZS.out)
         clear hoN hgN hbN HZS
         refine hK.out _ _ (.inr hH) ?_
         clear hK K
         try simp only [Act.put, lay_]
         refine wpAnyN_two (i := 7) (j := 8) (by kernel_rfl) rfl rfl (fun K hK => ?_) (fun K hK => ?_)
         ·skip
          have hwV := HBW.out _ hH
          have con := HFD V3a T (HTW.out _ hwV) AR n c vs (HR.out _ hwV) HRF.out v (HD.out _ hwV) HDF.out V3a.heap.size AZ (m + (1 + k)) cZ (bs ++ 21#8 :: cs) (owb_bs HO.out) (Nat.le_refl _) (owb_cap HO.out) (by omega)
          go_simp
          refine con.mono ?_
          clear con
          rintro e V4a ⟨z, rfl, hbN, hz, hzm⟩
          have HDZ := Lib.hid hz
          have HZM := Lib.hid hzm
          have hH := hH.trans (hbN.mono (HSV.out _ hH))
          clear hbN hz hzm hwV
          unfold Dvm.cells
          dsimp only
          go_wp2_with fail
          refine hK.out _ _ (.inr hH) ?_
          clear hK K
          try simp only [Act.put, lay_]
          have hHv := hH
          refine wpAnyN_one (i := 8) (by kernel_rfl) rfl (fun K hK => ?_)
          go_simp
          obtain ⟨U4, hN⟩ : ∃ W, W = V4a.alloc (.cells #[.int .i64 0, .slice none 0 0, .slice none 0 0, .slice none 0 0] 26) := ⟨_, rfl⟩
          have hbN : Below V4a.heap.size V4a U4 := by rw [hN]; exact (Below.refl _ _).alloc (Nat.le_refl _) _
          have HZ := Lib.hid (show Cel U4 V4a.heap.size 26 [.int .i64 0, .slice none 0 0, .slice none 0 0, .slice none 0 0] by rw [hN]; exact Cel.new V4a _ _)
          have HGZ := Lib.hid (HSV.out _ hH)
          have hH := hH.trans (hbN.mono (HSV.out _ hH))
          have HDZ := Lib.hid (HDZ.out.below (HTW.out _ (HBW.out _ hHv)) hbN)
          rw [← hN]
          refine hK.out _ _ (.inr hH) ?_
          clear hK K hN hbN
          try simp only [Act.put, lay_]
          obtain ⟨gz, hgz⟩ : ∃ q, q = V4a.heap.size := ⟨_, rfl⟩
          rw [← hgz] at HZ HGZ ⊢
          clear hgz
          have k0 := HZ.out.cell 0
          have k1 := HZ.out.cell 1
          have k2 := HZ.out.cell 2
          have k3 := HZ.out.cell 3
          have f0 := HZ.out.free 0
          have f1 := HZ.out.free 1
          have f2 := HZ.out.free 2
          have f3 := HZ.out.free 3
          have hfx := Lex.fw4_frm U4 gz (.int .i64 z.s) (.slice z.PA z.pt.length z.pc) (.slice z.LA z.lg.length z.lc) (.slice z.A z.ls.length z.c)
          have hcx := Lex.fw4_cel (a := (.int .i64 z.s)) (b := (.slice z.PA z.pt.length z.pc)) (c := (.slice z.LA z.lg.length z.lc)) (d := (.slice z.A z.ls.length z.c)) HZ.out
          have hgw := HGZ.out
          have hbx : Below S0 WD (Lex.fw4 U4 gz (.int .i64 z.s) (.slice z.PA z.pt.length z.pc) (.slice z.LA z.lg.length z.lc) (.slice z.A z.ls.length z.c)) := hH.trans (hfx.below (HSV.out _ hH) (by intro q hq; simp at hq; subst hq; exact hgw))
          have hwV := HBW.out _ hH
          have HRES := Lib.hid (show Dok (Lex.fw4 U4 gz (.int .i64 z.s) (.slice z.PA z.pt.length z.pc) (.slice z.LA z.lg.length z.lc) (.slice z.A z.ls.length z.c)) T z from HDZ.out.frm (HTW.out _ hwV) hfx (Nat.le_trans HTS.out hgw) HZ.out (by decide) (by decide))
          unfold Lex.fw4 at hbx hcx HRES
          refine wpAnyN_one (i := 9) (by kernel_rfl) rfl (fun K hK => ?_)
          go_simp
          refine hK.out _ _ (.inr hbx) ?_
          clear hK K
          try simp only [Act.put, lay_]
          refine wpAnyN_done (by kernel_rfl) ?_ _
          have HX := Lib.hid hcx
          have HBX := Lib.hid hbx
          clear hH hbx hcx hfx hwV hgw k0 k1 k2 k3 f0 f1 f2 f3
          go_wp2_with fail
          go_meet
          case rel => exact ⟨gz, z, rfl, HBX.out, HX.out, HRES.out, HZM.out⟩
         ·skip
          go_simp
          obtain ⟨U3, hN⟩ : ∃ W, W = V3a.alloc (.cells #[.int .i64 0, .slice none 0 0, .slice none 0 0, .slice none 0 0] 26) := ⟨_, rfl⟩
          have hbN : Below V3a.heap.size V3a U3 := by rw [hN]; exact (Below.refl _ _).alloc (Nat.le_refl _) _
          have HZ := Lib.hid (show Cel U3 V3a.heap.size 26 [.int .i64 0, .slice none 0 0, .slice none 0 0, .slice none 0 0] by rw [hN]; exact Cel.new V3a _ _)
          have HGZ := Lib.hid (HSV.out _ hH)
          have hH := hH.trans (hbN.mono (HSV.out _ hH))
          have HO := Lib.hid (Lex.Owb.below HO.out hbN)
          have HKB := Lib.hid (Nat.le_trans HKB.out hbN.size)
          rw [← hN]
          refine hK.out _ _ (.inr hH) ?_
          clear hK K hN hbN
          try simp only [Act.put, lay_]
          obtain ⟨gz, hgz⟩ : ∃ q, q = V3a.heap.size := ⟨_, rfl⟩
          rw [← hgz] at HZ HGZ ⊢
          clear hgz
          refine wpAnyN_one (i := 7) (by kernel_rfl) rfl (fun K hK => ?_)
          have hwV := HBW.out _ hH
          have con := HFD U3 T (HTW.out _ hwV) AR n c vs (HR.out _ hwV) HRF.out v (HD.out _ hwV) HDF.out U3.heap.size AZ (m + (1 + k)) cZ (bs ++ 21#8 :: cs) (owb_bs HO.out) (Nat.le_refl _) (owb_cap HO.out) (by omega)
          go_simp
          refine con.mono ?_
          clear con
          rintro e V4b ⟨z, rfl, hbN, hz, hzm⟩
          have HZ := Lib.hid (HZ.out.below hbN HZ.out.lt)
          have HDZ := Lib.hid hz
          have HZM := Lib.hid hzm
          have hH := hH.trans (hbN.mono (HSV.out _ hH))
          clear hbN hz hzm hwV
          unfold Dvm.cells
          dsimp only
          go_wp2_with fail
          refine hK.out _ _ (.inr hH) ?_
          clear hK K
          try simp only [Act.put, lay_]
          have k0 := HZ.out.cell 0
          have k1 := HZ.out.cell 1
          have k2 := HZ.out.cell 2
          have k3 := HZ.out.cell 3
          have f0 := HZ.out.free 0
          have f1 := HZ.out.free 1
          have f2 := HZ.out.free 2
          have f3 := HZ.out.free 3
          have hfx := Lex.fw4_frm V4b gz (.int .i64 z.s) (.slice z.PA z.pt.length z.pc) (.slice z.LA z.lg.length z.lc) (.slice z.A z.ls.length z.c)
          have hcx := Lex.fw4_cel (a := (.int .i64 z.s)) (b := (.slice z.PA z.pt.length z.pc)) (c := (.slice z.LA z.lg.length z.lc)) (d := (.slice z.A z.ls.length z.c)) HZ.out
          have hgw := HGZ.out
          have hbx : Below S0 WD (Lex.fw4 V4b gz (.int .i64 z.s) (.slice z.PA z.pt.length z.pc) (.slice z.LA z.lg.length z.lc) (.slice z.A z.ls.length z.c)) := hH.trans (hfx.below (HSV.out _ hH) (by intro q hq; simp at hq; subst hq; exact hgw))
          have hwV := HBW.out _ hH
          have HRES := Lib.hid (show Dok (Lex.fw4 V4b gz (.int .i64 z.s) (.slice z.PA z.pt.length z.pc) (.slice z.LA z.lg.length z.lc) (.slice z.A z.ls.length z.c)) T z from HDZ.out.frm (HTW.out _ hwV) hfx (Nat.le_trans HTS.out hgw) HZ.out (by decide) (by decide))
          unfold Lex.fw4 at hbx hcx HRES
          refine wpAnyN_one (i := 9) (by kernel_rfl) rfl (fun K hK => ?_)
          go_simp
          refine hK.out _ _ (.inr hbx) ?_
          clear hK K
          try simp only [Act.put, lay_]
          refine wpAnyN_done (by kernel_rfl) ?_ _
          have HX := Lib.hid hcx
          have HBX := Lib.hid hbx
          clear hH hbx hcx hfx hwV hgw k0 k1 k2 k3 f0 f1 f2 f3
          go_wp2_with fail
          go_meet
          case rel => exact ⟨gz, z, rfl, HBX.out, HX.out, HRES.out, HZM.out⟩
        ·skip
         go_simp
         obtain ⟨U2, hN⟩ : ∃ W, W = V2a.alloc (.cells #[.int .i64 0, .slice none 0 0, .slice none 0 0, .slice none 0 0] 26) := ⟨_, rfl⟩
         have hbN : Below V2a.heap.size V2a U2 := by rw [hN]; exact (Below.refl _ _).alloc (Nat.le_refl _) _
         have HZ := Lib.hid (show Cel U2 V2a.heap.size 26 [.int .i64 0, .slice none 0 0, .slice none 0 0, .slice none 0 0] by rw [hN]; exact Cel.new V2a _ _)
         have HGZ := Lib.hid (HSV.out _ hH)
         have hH := hH.trans (hbN.mono (HSV.out _ hH))
         have HO := Lib.hid (Lex.Owb.below HO.out hbN)
         have HKB := Lib.hid (Nat.le_trans HKB.out hbN.size)
         rw [← hN]
         refine hK.out _ _ (.inr hH) ?_
         clear hK K hN hbN
         try simp only [Act.put, lay_]
         obtain ⟨gz, hgz⟩ : ∃ q, q = V2a.heap.size := ⟨_, rfl⟩
         rw [← hgz] at HZ HGZ ⊢
         clear hgz
         refine wpAnyN_one (i := 6) (by kernel_rfl) rfl (fun K hK => ?_)
         rw [if_pos (by rfl)]
         refine wp_app _ _ 23 rfl KB 5 rowB (.slice A9 m c9) m bs rfl HO.out w6.heap.size A6 (1 + k) c6 (21#8 :: cs) rfl (HKL.out _ (HB6.out _ hH)) (m + (1 + k)) (bs ++ 21#8 :: cs) rfl rfl (by omega) HKB.out ?_
         intro AZ cZ V3b hoN hgN
         have hbN : Below KB U2 V3b := Lex.Owb.grew HO.out hgN HKB.out
         have HZS := Lib.hid hgN.size
         have HZ := Lib.hid (HZ.out.grown hgN (own_ty_ne HO.out HZ.out (by decide)))
         have HO := Lib.hid (show Owb V3b KB AZ (m + (1 + k)) cZ (bs ++ 21#8 :: cs) from hoN)
         have hH : Below S0 WD V3b := hH.trans (hbN.mono HKS.out)
         have HKB := Lib.hid (Nat.le_trans HKB.out HZS.out)
         clear hoN hgN hbN HZS
         refine hK.out _ _ (.inr hH) ?_
         clear hK K
         try simp only [Act.put, lay_]
         refine wpAnyN_one (i := 7) (by kernel_rfl) rfl (fun K hK => ?_)
         have hwV := HBW.out _ hH
         have con := HFD V3b T (HTW.out _ hwV) AR n c vs (HR.out _ hwV) HRF.out v (HD.out _ hwV) HDF.out V3b.heap.size AZ (m + (1 + k)) cZ (bs ++ 21#8 :: cs) (owb_bs HO.out) (Nat.le_refl _) (owb_cap HO.out) (by omega)
         go_simp
         refine con.mono ?_
         clear con
         rintro e V4b ⟨z, rfl, hbN, hz, hzm⟩
         have HZ := Lib.hid (HZ.out.below hbN HZ.out.lt)
         have HDZ := Lib.hid hz
         have HZM := Lib.hid hzm
         have hH := hH.trans (hbN.mono (HSV.out _ hH))
         clear hbN hz hzm hwV
         unfold Dvm.cells
         dsimp only
         go_wp2_with fail
         refine hK.out _ _ (.inr hH) ?_
         clear hK K
         try simp only [Act.put, lay_]
         have k0 := HZ.out.cell 0
         have k1 := HZ.out.cell 1
         have k2 := HZ.out.cell 2
         have k3 := HZ.out.cell 3
         have f0 := HZ.out.free 0
         have f1 := HZ.out.free 1
         have f2 := HZ.out.free 2
         have f3 := HZ.out.free 3
         have hfx := Lex.fw4_frm V4b gz (.int .i64 z.s) (.slice z.PA z.pt.length z.pc) (.slice z.LA z.lg.length z.lc) (.slice z.A z.ls.length z.c)
         have hcx := Lex.fw4_cel (a := (.int .i64 z.s)) (b := (.slice z.PA z.pt.length z.pc)) (c := (.slice z.LA z.lg.length z.lc)) (d := (.slice z.A z.ls.length z.c)) HZ.out
         have hgw := HGZ.out
         have hbx : Below S0 WD (Lex.fw4 V4b gz (.int .i64 z.s) (.slice z.PA z.pt.length z.pc) (.slice z.LA z.lg.length z.lc) (.slice z.A z.ls.length z.c)) := hH.trans (hfx.below (HSV.out _ hH) (by intro q hq; simp at hq; subst hq; exact hgw))
         have hwV := HBW.out _ hH
         have HRES := Lib.hid (show Dok (Lex.fw4 V4b gz (.int .i64 z.s) (.slice z.PA z.pt.length z.pc) (.slice z.LA z.lg.length z.lc) (.slice z.A z.ls.length z.c)) T z from HDZ.out.frm (HTW.out _ hwV) hfx (Nat.le_trans HTS.out hgw) HZ.out (by decide) (by decide))
         unfold Lex.fw4 at hbx hcx HRES
         refine wpAnyN_one (i := 9) (by kernel_rfl) rfl (fun K hK => ?_)
         go_simp
         refine hK.out _ _ (.inr hbx) ?_
         clear hK K
         try simp only [Act.put, lay_]
         refine wpAnyN_done (by kernel_rfl) ?_ _
         have HX := Lib.hid hcx
         have HBX := Lib.hid hbx
         clear hH hbx hcx hfx hwV hgw k0 k1 k2 k3 f0 f1 f2 f3
         go_wp2_with fail
         go_meet
         case rel => exact ⟨gz, z, rfl, HBX.out, HX.out, HRES.out, HZM.out⟩
       ·skip
        go_simp
        obtain ⟨U1, hN⟩ : ∃ W, W = V1a.alloc (.cells #[.int .i64 0, .slice none 0 0, .slice none 0 0, .slice none 0 0] 26) := ⟨_, rfl⟩
        have hbN : Below V1a.heap.size V1a U1 := by rw [hN]; exact (Below.refl _ _).alloc (Nat.le_refl _) _
        have HZ := Lib.hid (show Cel U1 V1a.heap.size 26 [.int .i64 0, .slice none 0 0, .slice none 0 0, .slice none 0 0] by rw [hN]; exact Cel.new V1a _ _)
        have HGZ := Lib.hid (HSV.out _ hH)
        have hH := hH.trans (hbN.mono (HSV.out _ hH))
        have HO := Lib.hid (Lex.Owb.below HO.out hbN)
        have HKB := Lib.hid (Nat.le_trans HKB.out hbN.size)
        rw [← hN]
        refine hK.out _ _ (.inr hH) ?_
        clear hK K hN hbN
        try simp only [Act.put, lay_]
        obtain ⟨gz, hgz⟩ : ∃ q, q = V1a.heap.size := ⟨_, rfl⟩
        rw [← hgz] at HZ HGZ ⊢
        clear hgz
        refine wpAnyN_one (i := 4) (by kernel_rfl) rfl (fun K hK => ?_)
        rw [if_pos (by rfl)]
        refine wp_app _ _ 23 rfl KB 5 rowB (.slice (some ⟨KB, 0, none⟩) 0 0) 0 [] rfl HO.out w.heap.size AB m cb bs rfl (HBS.out _ (HBW.out _ hH)) m bs (Nat.zero_add _) rfl (by omega) HKB.out ?_
        intro A9 c9 V2b hoN hgN
        have hbN : Below KB U1 V2b := Lex.Owb.grew HO.out hgN HKB.out
        have HZS := Lib.hid hgN.size
        have HZ := Lib.hid (HZ.out.grown hgN (own_ty_ne HO.out HZ.out (by decide)))
        have HO := Lib.hid (show Owb V2b KB A9 m c9 bs from hoN)
        have hH : Below S0 WD V2b := hH.trans (hbN.mono HKS.out)
        have HKB := Lib.hid (Nat.le_trans HKB.out HZS.out)
        clear hoN hgN hbN HZS
        refine hK.out _ _ (.inr hH) ?_
        clear hK K
        try simp only [Act.put, lay_]
        refine wpAnyN_one (i := 6) (by kernel_rfl) rfl (fun K hK => ?_)
        rw [if_pos (by rfl)]
        refine wp_app _ _ 23 rfl KB 5 rowB (.slice A9 m c9) m bs rfl HO.out w6.heap.size A6 (1 + k) c6 (21#8 :: cs) rfl (HKL.out _ (HB6.out _ hH)) (m + (1 + k)) (bs ++ 21#8 :: cs) rfl rfl (by omega) HKB.out ?_
        intro AZ cZ V3b hoN hgN
        have hbN : Below KB V2b V3b := Lex.Owb.grew HO.out hgN HKB.out
        have HZS := Lib.hid hgN.size
        have HZ := Lib.hid (HZ.out.grown hgN (own_ty_ne HO.out HZ.out (by decide)))
        have HO := Lib.hid (show Owb V3b KB AZ (m + (1 + k)) cZ (bs ++ 21#8 :: cs) from hoN)
        have hH : Below S0 WD V3b := hH.trans (hbN.mono HKS.out)
        have HKB := Lib.hid (Nat.le_trans HKB.out HZS.out)
        clear hoN hgN hbN HZS
        refine hK.out _ _ (.inr hH) ?_
        clear hK K
        try simp only [Act.put, lay_]
        refine wpAnyN_one (i := 7) (by kernel_rfl) rfl (fun K hK => ?_)
        have hwV := HBW.out _ hH
        have con := HFD V3b T (HTW.out _ hwV) AR n c vs (HR.out _ hwV) HRF.out v (HD.out _ hwV) HDF.out V3b.heap.size AZ (m + (1 + k)) cZ (bs ++ 21#8 :: cs) (owb_bs HO.out) (Nat.le_refl _) (owb_cap HO.out) (by omega)
        go_simp
        refine con.mono ?_
        clear con
        rintro e V4b ⟨z, rfl, hbN, hz, hzm⟩
        have HZ := Lib.hid (HZ.out.below hbN HZ.out.lt)
        have HDZ := Lib.hid hz
        have HZM := Lib.hid hzm
        have hH := hH.trans (hbN.mono (HSV.out _ hH))
        clear hbN hz hzm hwV
        unfold Dvm.cells
        dsimp only
        go_wp2_with fail
        refine hK.out _ _ (.inr hH) ?_
        clear hK K
        try simp only [Act.put, lay_]
        have k0 := HZ.out.cell 0
        have k1 := HZ.out.cell 1
        have k2 := HZ.out.cell 2
        have k3 := HZ.out.cell 3
        have f0 := HZ.out.free 0
        have f1 := HZ.out.free 1
        have f2 := HZ.out.free 2
        have f3 := HZ.out.free 3
        have hfx := Lex.fw4_frm V4b gz (.int .i64 z.s) (.slice z.PA z.pt.length z.pc) (.slice z.LA z.lg.length z.lc) (.slice z.A z.ls.length z.c)
        have hcx := Lex.fw4_cel (a := (.int .i64 z.s)) (b := (.slice z.PA z.pt.length z.pc)) (c := (.slice z.LA z.lg.length z.lc)) (d := (.slice z.A z.ls.length z.c)) HZ.out
        have hgw := HGZ.out
        have hbx : Below S0 WD (Lex.fw4 V4b gz (.int .i64 z.s) (.slice z.PA z.pt.length z.pc) (.slice z.LA z.lg.length z.lc) (.slice z.A z.ls.length z.c)) := hH.trans (hfx.below (HSV.out _ hH) (by intro q hq; simp at hq; subst hq; exact hgw))
        have hwV := HBW.out _ hH
        have HRES := Lib.hid (show Dok (Lex.fw4 V4b gz (.int .i64 z.s) (.slice z.PA z.pt.length z.pc) (.slice z.LA z.lg.length z.lc) (.slice z.A z.ls.length z.c)) T z from HDZ.out.frm (HTW.out _ hwV) hfx (Nat.le_trans HTS.out hgw) HZ.out (by decide) (by decide))
        unfold Lex.fw4 at hbx hcx HRES
        refine wpAnyN_one (i := 9) (by kernel_rfl) rfl (fun K hK => ?_)
        go_simp
        refine hK.out _ _ (.inr hbx) ?_
        clear hK K
        try simp only [Act.put, lay_]
        refine wpAnyN_done (by kernel_rfl) ?_ _
        have HX := Lib.hid hcx
        have HBX := Lib.hid hbx
        clear hH hbx hcx hfx hwV hgw k0 k1 k2 k3 f0 f1 f2 f3
        go_wp2_with fail
        go_meet
        case rel => exact ⟨gz, z, rfl, HBX.out, HX.out, HRES.out, HZM.out⟩
      ·skip
       go_simp
       obtain ⟨U0, hN⟩ : ∃ W, W = WD.alloc (.cells #[.int .i64 0, .slice none 0 0, .slice none 0 0, .slice none 0 0] 26) := ⟨_, rfl⟩
       have hbN : Below WD.heap.size WD U0 := by rw [hN]; exact (Below.refl _ _).alloc (Nat.le_refl _) _
       have HZ := Lib.hid (show Cel U0 WD.heap.size 26 [.int .i64 0, .slice none 0 0, .slice none 0 0, .slice none 0 0] by rw [hN]; exact Cel.new WD _ _)
       have HGZ := Lib.hid (HSV.out _ hH)
       have hH := hH.trans (hbN.mono (HSV.out _ hH))
       rw [← hN]
       refine hK.out _ _ (.inr hH) ?_
       clear hK K hN hbN
       try simp only [Act.put, lay_]
       obtain ⟨gz, hgz⟩ : ∃ q, q = WD.heap.size := ⟨_, rfl⟩
       rw [← hgz] at HZ HGZ ⊢
       clear hgz
       refine wpAnyN_one (i := 2) (by kernel_rfl) rfl (fun K hK => ?_)
       go_simp
       obtain ⟨V1b, hN⟩ : ∃ W, W = U0.alloc (.cells #[] 5) := ⟨_, rfl⟩
       have hbN : Below U0.heap.size U0 V1b := by rw [hN]; exact (Below.refl _ _).alloc (Nat.le_refl _) _
       have HO := Lib.hid (show Owb V1b U0.heap.size (some ⟨U0.heap.size, 0, none⟩) 0 0 [] by rw [hN]; exact lit0 U0)
       have HSZ := Lib.hid (HSV.out _ hH)
       have hH := hH.trans (hbN.mono (HSV.out _ hH))
       have HZ := Lib.hid (HZ.out.below hbN HZ.out.lt)
       rw [← hN]
       have hbq := hbN.size
       refine hK.out _ _ (.inr hH) ?_
       clear hK K hN hbN
       try simp only [Act.put, lay_]
       obtain ⟨KB, hKB⟩ : ∃ q, q = U0.heap.size := ⟨_, rfl⟩
       rw [← hKB] at HO HSZ ⊢
       have HKS := Lib.hid (show S0 ≤ KB from HSZ.out)
       have HKB := Lib.hid (show KB ≤ V1b.heap.size by rw [hKB]; exact hbq)
       clear hKB hbq HSZ
       refine wpAnyN_one (i := 4) (by kernel_rfl) rfl (fun K hK => ?_)
       rw [if_pos (by rfl)]
       refine wp_app _ _ 23 rfl KB 5 rowB (.slice (some ⟨KB, 0, none⟩) 0 0) 0 [] rfl HO.out w.heap.size AB m cb bs rfl (HBS.out _ (HBW.out _ hH)) m bs (Nat.zero_add _) rfl (by omega) HKB.out ?_
       intro A9 c9 V2b hoN hgN
       have hbN : Below KB V1b V2b := Lex.Owb.grew HO.out hgN HKB.out
       have HZS := Lib.hid hgN.size
       have HZ := Lib.hid (HZ.out.grown hgN (own_ty_ne HO.out HZ.out (by decide)))
       have HO := Lib.hid (show Owb V2b KB A9 m c9 bs from hoN)
       have hH : Below S0 WD V2b := hH.trans (hbN.mono HKS.out)
       have HKB := Lib.hid (Nat.le_trans HKB.out HZS.out)
       clear hoN hgN hbN HZS
       refine hK.out _ _ (.inr hH) ?_
       clear hK K
       try simp only [Act.put, lay_]
       refine wpAnyN_one (i := 6) (by kernel_rfl) rfl (fun K hK => ?_)
       rw [if_pos (by rfl)]
       refine wp_app _ _ 23 rfl KB 5 rowB (.slice A9 m c9) m bs rfl HO.out w6.heap.size A6 (1 + k) c6 (21#8 :: cs) rfl (HKL.out _ (HB6.out _ hH)) (m + (1 + k)) (bs ++ 21#8 :: cs) rfl rfl (by omega) HKB.out ?_
       intro AZ cZ V3b hoN hgN
       have hbN : Below KB V2b V3b := Lex.Owb.grew HO.out hgN HKB.out
       have HZS := Lib.hid hgN.size
       have HZ := Lib.hid (HZ.out.grown hgN (own_ty_ne HO.out HZ.out (by decide)))
       have HO := Lib.hid (show Owb V3b KB AZ (m + (1 + k)) cZ (bs ++ 21#8 :: cs) from hoN)
       have hH : Below S0 WD V3b := hH.trans (hbN.mono HKS.out)
       have HKB := Lib.hid (Nat.le_trans HKB.out HZS.out)
       clear hoN hgN hbN HZS
       refine hK.out _ _ (.inr hH) ?_
       clear hK K
       try simp only [Act.put, lay_]
       refine wpAnyN_one (i := 7) (by kernel_rfl) rfl (fun K hK => ?_)
       have hwV := HBW.out _ hH
       have con := HFD V3b T (HTW.out _ hwV) AR n c vs (HR.out _ hwV) HRF.out v (HD.out _ hwV) HDF.out V3b.heap.size AZ (m + (1 + k)) cZ (bs ++ 21#8 :: cs) (owb_bs HO.out) (Nat.le_refl _) (owb_cap HO.out) (by omega)
       go_simp
       refine con.mono ?_
       clear con
       rintro e V4b ⟨z, rfl, hbN, hz, hzm⟩
       have HZ := Lib.hid (HZ.out.below hbN HZ.out.lt)
       have HDZ := Lib.hid hz
       have HZM := Lib.hid hzm
       have hH := hH.trans (hbN.mono (HSV.out _ hH))
       clear hbN hz hzm hwV
       unfold Dvm.cells
       dsimp only
       go_wp2_with fail
       refine hK.out _ _ (.inr hH) ?_
       clear hK K
       try simp only [Act.put, lay_]
       have k0 := HZ.out.cell 0
       have k1 := HZ.out.cell 1
       have k2 := HZ.out.cell 2
       have k3 := HZ.out.cell 3
       have f0 := HZ.out.free 0
       have f1 := HZ.out.free 1
       have f2 := HZ.out.free 2
       have f3 := HZ.out.free 3
       have hfx := Lex.fw4_frm V4b gz (.int .i64 z.s) (.slice z.PA z.pt.length z.pc) (.slice z.LA z.lg.length z.lc) (.slice z.A z.ls.length z.c)
       have hcx := Lex.fw4_cel (a := (.int .i64 z.s)) (b := (.slice z.PA z.pt.length z.pc)) (c := (.slice z.LA z.lg.length z.lc)) (d := (.slice z.A z.ls.length z.c)) HZ.out
       have hgw := HGZ.out
       have hbx : Below S0 WD (Lex.fw4 V4b gz (.int .i64 z.s) (.slice z.PA z.pt.length z.pc) (.slice z.LA z.lg.length z.lc) (.slice z.A z.ls.length z.c)) := hH.trans (hfx.below (HSV.out _ hH) (by intro q hq; simp at hq; subst hq; exact hgw))
       have hwV := HBW.out _ hH
       have HRES := Lib.hid (show Dok (Lex.fw4 V4b gz (.int .i64 z.s) (.slice z.PA z.pt.length z.pc) (.slice z.LA z.lg.length z.lc) (.slice z.A z.ls.length z.c)) T z from HDZ.out.frm (HTW.out _ hwV) hfx (Nat.le_trans HTS.out hgw) HZ.out (by decide) (by decide))
       unfold Lex.fw4 at hbx hcx HRES
       refine wpAnyN_one (i := 9) (by kernel_rfl) rfl (fun K hK => ?_)
       go_simp
       refine hK.out _ _ (.inr hbx) ?_
       clear hK K
       try simp only [Act.put, lay_]
       refine wpAnyN_done (by kernel_rfl) ?_ _
       have HX := Lib.hid hcx
       have HBX := Lib.hid hbx
       clear hH hbx hcx hfx hwV hgw k0 k1 k2 k3 f0 f1 f2 f3
       go_wp2_with fail
       go_meet
       case rel => exact ⟨gz, z, rfl, HBX.out, HX.out, HRES.out, HZM.out⟩
     case rest =>
      obtain ⟨gz, z, rfl, hbe, hcz, hdz, hzm⟩ := hcut
      obtain ⟨WE, hWE⟩ : ∃ W, W = wc := ⟨_, rfl⟩
      rw [← hWE] at hbe hcz hdz ⊢
      clear hWE hWD
      have hyz : z.m = y.m := by rw [hzm, HYM.out]; exact feed_kill _ _ _ _ HNO.out
      obtain ⟨WF, hWF⟩ : ∃ W, W = WE.drew := ⟨_, rfl⟩
      have hef : Below S0 WD WF := by rw [hWF]; exact hbe.drew
      have HBWF := Lib.hid (HBW.out _ hef)
      have HCY := Lib.hid (HYV.out _ hef)
      have HCZ := Lib.hid (show Cel WF gz 26 z.cells by rw [hWF]; exact hcz.drew)
      have HDY2 := Lib.hid (HDV.out _ hef)
      have HDZ2 := Lib.hid (show ∀ V, Below WF.heap.size WF V → Dok V T z from fun V hV => by
       have h1 := HTW.out _ (HBW.out _ hbe)
       have h2 : Below WE.heap.size WE WF := by rw [hWF]; exact (Below.refl _ _).drew
       exact hdz.below h1 (h2.trans (hV.mono h2.size)))
      have hzl : z.ls.length = y.ls.length := by have e := congrArg (fun p : Pe => p.lines.length) hyz; simp only [dvm_lines] at e; exact e
      have HZL := Lib.hid hzl
      have HZM := Lib.hid hyz
      clear hyz hzl hef hbe hcz hdz hzm
      go_upto_region 15 with fail
      refine Ord.wp_region_N [] (fun V => Below WF.heap.size WF V) (by kernel_rfl) ?_
      rw [← hWF]
      have hH : Below WF.heap.size WF WF := Below.refl _ _
      clear hWF
      refine wpAnyN_take (i := 0) (v := .agg y.cells.toArray) [] (by kernel_rfl) rfl (by kernel_rfl) (by kernel_rfl) (by kernel_rfl) (fun _ _ _ h => h) (yieldsIf_load_mid (by rfl) _ _ rfl gy 0 rfl y.cells _ (fun V hV => fun j u hu => by rw [Nat.zero_add, (HCY.out.below hV HCY.out.lt).cell j, hu]) Try.underlying26 rfl (show _ = some 4 by kernel_rfl)) hH ?_
      try simp only [Act.put, lay_]
      refine wpAnyN_take (i := 2) (v := .agg z.cells.toArray) [] (by kernel_rfl) rfl (by kernel_rfl) (by kernel_rfl) (by kernel_rfl) (fun _ _ _ h => h) (yieldsIf_load_mid (by rfl) _ _ rfl gz 0 rfl z.cells _ (fun V hV => fun j u hu => by rw [Nat.zero_add, (HCZ.out.below hV HCZ.out.lt).cell j, hu]) Try.underlying26 rfl (show _ = some 4 by kernel_rfl)) hH ?_
      try simp only [Act.put, lay_]
      refine wpAnyN_one (i := 1) (by kernel_rfl) rfl (fun K hK => ?_)
      go_simp
      refine (as17v WF T y HDY2.out (HTW.out _ HBWF.out) (by have := HYL.out; omega)).mono ?_
      rintro e x1 ⟨Ay, cy, rfl, hln1, hx1⟩
      go_wp2_with fail
      refine hK.out _ _ (.inr hx1) ?_
      clear hK K
      try simp only [Act.put, lay_]
      have HX1 := Lib.hid hx1
      have HW1 := Lib.hid (HBWF.out.trans (hx1.mono HBWF.out.size))
      have HN1 := Lib.hid hln1
      clear hx1 hln1 hH
      refine wpAnyN_one (i := 3) (by kernel_rfl) rfl (fun K hK => ?_)
      go_simp
      refine (as17v x1 T z (HDZ2.out _ HX1.out) (HTW.out _ HW1.out) (by have := HYL.out; have := HZL.out; omega)).mono ?_
      rintro e x2 ⟨Az, cz, rfl, hln2, hx2⟩
      go_wp2_with fail
      refine hK.out _ _ (.inr (HX1.out.trans (hx2.mono HX1.out.size))) ?_
      clear hK K
      try simp only [Act.put, lay_]
      have HX2 := Lib.hid (HX1.out.trans (hx2.mono HX1.out.size))
      have HN2 := Lib.hid (Ry.below HN1.out hx2)
      have hyx : txt z.ls = txt y.ls := congrArg Pe.lines HZM.out
      have e1 : z.s = y.s := congrArg Pe.state HZM.out
      have e2 : z.pt = y.pt := congrArg Pe.part HZM.out
      have e3 : z.lg = y.lg := congrArg Pe.log HZM.out
      have HM2 := Lib.hid (show Lnr x2 Az (txt y.ls) by rw [← hyx]; exact hln2)
      clear hx2 hln2 HX1 HW1 HN1
      rw [HZL.out, e1, e2, e3]
      clear e1 e2 e3 hyx
      refine wpAnyN_one (i := 4) (by kernel_rfl) rfl (fun K hK => ?_)
      go_simp
      refine (same17p x2 y.m Ay Az y.ls.length cy cz HN2.out HM2.out (dvm_lines y) (by have := HYL.out; omega)).mono ?_
      rintro e x3 ⟨rfl, hx3⟩
      go_wp2_with fail
      refine hK.out _ _ (.inr (HX2.out.trans (hx3.mono HX2.out.size))) ?_
      clear hK K
      try simp only [Act.put, lay_]
      have HX3 := Lib.hid (HX2.out.trans (hx3.mono HX2.out.size))
      have hH := HX3.out
      clear hx3 HX2 HN2 HM2
      refine tk_ 5 (.bool true) [] rfl hH ?_ ?_
      ·intro V hV; go_simp
      try simp only [Act.put, lay_]
      have HW3 := Lib.hid (HBWF.out.trans (HX3.out.mono HBWF.out.size))
      clear hH
      refine wpAnyN_one (i := 6) (by kernel_rfl) rfl (fun K hK => ?_)
      go_simp
      refine (HK0.out x3).mono ?_
      rintro e x4 ⟨rfl, hbw⟩
      have hx4 := HX3.out.trans (hbw.mono HX3.out.size)
      have HEND := Lib.hid (HW3.out.trans (hbw.mono HW3.out.size))
      clear hbw
      go_wp2_with fail
      refine hK.out _ _ (.inr hx4) ?_
      clear hK K
      try simp only [Act.put, lay_]
      clear HX3 HW3
      have hH := hx4
      refine tk_ 7 (.bool true) [] rfl hH ?_ ?_
      ·intro V hV; go_simp
      try simp only [Act.put, lay_]
      refine tk_ 8 (.bool true) [] rfl hH ?_ ?_
      ·intro V hV; go_simp
      try simp only [Act.put, lay_]
      refine wpAnyN_done (by kernel_rfl) ?_ _
      clear hH
      go_wp2_with fail
      go_ret
      exact ⟨rfl, HEND.out⟩
end Go.Proofs.Ytfllngpncnhfnaa.Peer
