/-
Texts: PeerRules PeerPsays LinkRead LinkAttach LinkFew OrdersMore
-/
import Derived.Test.YtnjmdgnghidjhaaLinkPlays0
import Derived.Test.YtnjmdgnghidjhaaLinkPlays1
import Derived.Test.YtnjmdgnghidjhaaLinkPlays2
import Derived.Test.YtnjmdgnghidjhaaLinkPlays3
import Derived.BigQuiet
import Derived.Deep.CutRange
set_option linter.unusedVariables false
set_option linter.unusedSimpArgs false
set_option maxRecDepth 100000
set_option maxHeartbeats 4000000
namespace Go.Proofs.Ytnjmdgnghidjhaa.Ord
end Go.Proofs.Ytnjmdgnghidjhaa.Ord
section
namespace Go.Proofs.Ytnjmdgnghidjhaa.Peer
open Go.RowKit Go.Proofs.Ytnjmdgnghidjhaa.Ord
open Lex (Owb rowB add_at4)
theorem infoRu : (Try.prog.info? 61).map (fun i => (i.zero, i.size, i.bytes)) = some (some (.agg #[.int .i64 0, .slice none 0 0, .slice none 0 0, .int .i64 0]), 4, 64) := by kernel_rfl
theorem rowRu : ElemRow Try.prog 30 61 4 64 := ElemRow.mk' Try.underlying30 infoRu rfl (by decide)
def Rl.cells (v : Rl) : List Value := [.int .i64 v.r.state, .slice v.A1 v.r.line.length v.c1, .slice v.A2 v.r.out.length v.c2, .int .i64 v.r.next]
def rflat (vs : List Rl) : List Value := vs.flatMap Rl.cells
theorem rflat_app (vs : List Rl) (v : Rl) : rflat (vs ++ [v]) = rflat vs ++ v.cells := by unfold rflat; rw [List.flatMap_append]; simp
theorem rflat4 : ∀ (vs : List Rl) (i k : Nat) (v : Rl), vs[i]? = some v → k < 4 → (rflat vs)[i * 4 + k]? = v.cells[k]?
 | [], _, _, _, h, _ => by simp at h
 | u :: us, 0, k, v, h, hk => by
  simp at h
  subst h
  rw [rflat, List.flatMap_cons, List.getElem?_append_left (by rw [Nat.zero_mul, Nat.zero_add]; exact hk), Nat.zero_mul, Nat.zero_add]
 | u :: us, i + 1, k, v, h, hk => by
  have h1 := rflat4 us i k v (by simpa using h) hk
  rw [rflat, List.flatMap_cons, List.getElem?_append_right (by show 4 ≤ _; omega)]
  rw [← h1]
  show _ = (us.flatMap Rl.cells)[i * 4 + k]?
  congr 1
  show (i + 1) * 4 + k - 4 = _
  omega
structure Rro (w : World) (D : Nat) (A : Option Addr) (n c : Nat) (vs : List Rl) : Prop where
 own : w.ownsRow D 61 4 (.slice A n c) n (rflat vs)
 len : vs.length = n
 tx : ∀ v ∈ vs, By w v.A1 v.r.line.length v.r.line ∧ By w v.A2 v.r.out.length v.r.out
theorem Rro.below {w w' : World} {D n c : Nat} {A : Option Addr} {vs : List Rl} (h : Rro w D A n c vs) (hb : Below w.heap.size w w') : Rro w' D A n c vs := ⟨own_frm (l := []) h.own (Frm.of_below hb) (by simp), h.len, fun v hv => ⟨(h.tx v hv).1.below hb, (h.tx v hv).2.below hb⟩⟩
theorem Rro.rls {w : World} {D n c : Nat} {A : Option Addr} {vs : List Rl} (h : Rro w D A n c vs) (T : Nat) : Rls w T A vs := fun i v hi => by
 have hr := Ry.of_own h.own (by decide)
 have e : ∀ k, k < 4 → (rflat vs)[i * 4 + k]? = v.cells[k]? := fun k hk => rflat4 vs i k v hi hk
 obtain ⟨ad, rfl, _, hc⟩ := hr (fun q => by have := e 0 (by decide); rw [q] at this; simp [Rl.cells] at this)
 have ht := h.tx v (List.mem_of_getElem? hi)
 exact ⟨ad, rfl, hc _ _ (e 0 (by decide)), by rw [add_at4 _ _ 1 (by decide)]; exact hc _ _ (e 1 (by decide)), by rw [add_at4 _ _ 2 (by decide)]; exact hc _ _ (e 2 (by decide)), by rw [add_at4 _ _ 3 (by decide)]; exact hc _ _ (e 3 (by decide)), .inr ht.1, .inr ht.2⟩
theorem Rro.grew {w w' : World} {D n c : Nat} {A : Option Addr} {vs : List Rl} (h : Rro w D A n c vs) (hg : w.grownBy w' (Value.slice A n c).ownBlock) (hD : D ≤ w.heap.size) : Below D w w' :=
 ⟨hg.os, hg.tape, hg.output, hg.size, fun k hk => hg.block k (by omega) fun e => by have := own_ge h.own k e.symm; omega⟩
theorem Rro.pushed {w w' : World} {D n c c' : Nat} {A A' : Option Addr} {vs : List Rl} {v : Rl} (h : Rro w D A n c vs) (hv : By w v.A1 v.r.line.length v.r.line ∧ By w v.A2 v.r.out.length v.r.out) (hg : w.grownBy w' (Value.slice A n c).ownBlock) (ho : w'.ownsRow D 61 4 (.slice A' (n + 1) c') (n + 1) (rflat (vs ++ [v]))) : Rro w' D A' (n + 1) c' (vs ++ [v]) := by
 refine ⟨ho, by rw [List.length_append, h.len]; rfl, fun u hu => ?_⟩
 have hne := not_bytes h.own (by decide)
 rcases List.mem_append.1 hu with hu | hu
 ·exact ⟨(h.tx u hu).1.grown hg hne, (h.tx u hu).2.grown hg hne⟩
 ·rw [List.mem_singleton.1 hu]; exact ⟨hv.1.grown hg hne, hv.2.grown hg hne⟩
def RuSays (w : World) (n : Nat) (vs : List Rl) (e : Ending) (w' : World) : Prop := ∃ A' c' ys, e = .returned (.slice A' n c') ∧ Rro w' w.heap.size A' n c' ys ∧ ys.map (·.r) = vs.map (·.r) ∧ Below w.heap.size w w'
theorem rules_ (w : World) (T : Nat) (A : Option Addr) (n c : Nat) (vs : List Rl) (h : Rls w T A vs) (hT : T ≤ w.heap.size) (hl : vs.length = n) (hn : n ≤ 1000) (hsz : ∀ v ∈ vs, v.r.line.length ≤ 1000 ∧ v.r.out.length ≤ 1000) :
  Calls Try.prog 9 #[.slice A n c] w (RuSays w n vs) := by
 have HR := Lib.hid h
 have HL := Lib.hid hl
 have HSZ := Lib.hid hsz
 clear h hl hsz
 go_enter Try.func9, Try.ntmps9
 go_wp2_with fail
 go_loopw [3, 4] (fun v3 v4 wr => ∃ (i c3 : Nat) (A3 : Option Addr) (ys : List Rl), i ≤ n ∧ v4 = .int .i64 (i : Int) ∧ v3 = .slice A3 i c3 ∧ Rro wr w.heap.size A3 i c3 ys ∧ ys.map (·.r) = (vs.take i).map (·.r) ∧ Below w.heap.size w wr) (fun _ v4 _ => n - (intOf v4).toNat)
 case atStart => exact ⟨0, 0, none, [], Nat.zero_le _, rfl, rfl, ⟨World.ownsRow_nil _ _ _ _, rfl, by simp⟩, by simp, Below.refl _ _⟩
 case round =>
  obtain ⟨i, c3, A3, ys, hi, rfl, rfl, hra, hys, hb⟩ := hrel
  obtain ⟨V0, rfl⟩ : ∃ V0, V0 = wr := ⟨_, rfl⟩
  have HRA := Lib.hid hra
  have HYS := Lib.hid hys
  have HB := Lib.hid hb
  have hT0 : T ≤ V0.heap.size := Nat.le_trans hT hb.size
  clear hra hys hb
  rcases Nat.lt_or_ge i n with hlt | hge
  ·obtain ⟨v, hv⟩ : ∃ v, vs[i]? = some v := ⟨_, List.getElem?_eq_getElem (by rw [HL.out]; exact hlt)⟩
   obtain ⟨ad, rfl, a0, a1, a2, a3, ht1, ht2⟩ := (HR.out.below hT HB.out) i v hv
   obtain ⟨hs1, hs2⟩ := HSZ.out v (List.mem_of_getElem? hv)
   have HV := Lib.hid hv
   have hb1 : Below V0.heap.size V0 (V0.alloc (.cells #[] 5)) := (Below.refl _ _).alloc (Nat.le_refl _) _
   have z1 := (hb1.cell (cell_lt a1)).trans a1
   have HA := Lib.hid (And.intro a0 (And.intro a2 a3))
   have HT1 := Lib.hid ((ht1.bs hT0).below hb1)
   have HT2 := Lib.hid ht2
   have HB1 := Lib.hid hb1
   have HO1 := Lib.hid (show Owb (V0.alloc (.cells #[] 5)) V0.heap.size (some ⟨V0.heap.size, 0, none⟩) 0 0 [] from World.ownsRow_lit V0 #[] 0 (Nat.le_refl _) (Nat.zero_le _) (by rfl))
   clear hv ht1 ht2 a0 a1 a2 a3 hb1
   go_wp2_with (at_builtin; refine wpList_append_bs _ rfl _ _ 37 rfl V0.heap.size 5 rowB (.slice (some ⟨V0.heap.size, 0, none⟩) 0 0) 0 [] rfl HO1.out V0.heap.size v.A1 v.r.line.length v.c1 v.r.line rfl HT1.out v.r.line.length v.r.line (by omega) rfl (by omega) HB1.out.size ?_; intro A1 k1 W2 o2 g2 _; have HB2 := Lib.hid (HB1.out.trans (HO1.out.grew g2 HB1.out.size)); have HO2 := Lib.hid (show Owb W2 V0.heap.size A1 v.r.line.length k1 v.r.line from o2); clear o2 g2 z1)
   obtain ⟨b0', b2', b3'⟩ := HA.out
   have b0 := (HB2.out.cell (cell_lt b0')).trans b0'
   have b2 := (HB2.out.cell (cell_lt b2')).trans b2'
   have b3 := (HB2.out.cell (cell_lt b3')).trans b3'
   clear b0' b2' b3'
   refine wp_region_N [21, 22] (Below W2.heap.size W2) (by kernel_rfl) ?_
   have hH : Below W2.heap.size W2 W2.drew := (Below.refl _ _).drew
   refine tk_ 0 (.slice A3 i c3) [21, 22] rfl hH ?_ ?_
   ·intro V hV; go_simp
   try simp only [Act.put, lay_]
   refine tk_ 1 (.slice (some ad) n c) [3, 4, 5, 19, 20, 21, 22] rfl hH ?_ ?_
   ·intro V hV; go_simp
   try simp only [Act.put, lay_]
   refine tk_ 2 (.int .i64 (i : Int)) [3, 4, 5, 19, 20, 21, 22] rfl hH ?_ ?_
   ·intro V hV; go_simp
   try simp only [Act.put, lay_]
   refine tk_ 3 (.pointer (some (ad.add (i * 4)))) [4, 5, 19, 20, 21, 22] rfl hH ?_ ?_
   ·intro V hV; go_simp
   try simp only [Act.put, lay_]
   refine tk_ 4 (.pointer (some (ad.add (i * 4)))) [5, 19, 20, 21, 22] rfl hH ?_ ?_
   ·intro V hV; go_simp
   try simp only [Act.put, lay_]
   refine tk_ 5 (.int .i64 v.r.state) [19, 20, 21, 22] rfl hH ?_ ?_
   ·intro V hV; have z0 := (hV.cell (cell_lt b0)).trans b0; go_simp
   try simp only [Act.put, lay_]
   refine tk_ 6 (.slice A1 v.r.line.length k1) [19, 20, 21, 22] rfl hH ?_ ?_
   ·intro V hV; go_simp
   try simp only [Act.put, lay_]
   refine tk_ 8 (.slice (some ad) n c) [10, 11, 12, 13, 21, 22] rfl hH ?_ ?_
   ·intro V hV; go_simp
   try simp only [Act.put, lay_]
   refine tk_ 9 (.int .i64 (i : Int)) [10, 11, 12, 13, 21, 22] rfl hH ?_ ?_
   ·intro V hV; go_simp
   try simp only [Act.put, lay_]
   refine tk_ 10 (.pointer (some (ad.add (i * 4)))) [11, 12, 13, 21, 22] rfl hH ?_ ?_
   ·intro V hV; go_simp
   try simp only [Act.put, lay_]
   refine tk_ 11 (.pointer (some ⟨(ad.add (i * 4)).block, (ad.add (i * 4)).off + 2, none⟩)) [12, 13, 21, 22] rfl hH ?_ ?_
   ·intro V hV; go_simp
   try simp only [Act.put, lay_]
   refine tk_ 12 (.slice v.A2 v.r.out.length v.c2) [13, 21, 22] rfl hH ?_ ?_
   ·intro V hV; have z0 := (hV.cell (cell_lt b2)).trans b2; go_simp
   try simp only [Act.put, lay_]
   refine tk_ 14 (.slice (some ad) n c) [16, 17, 18, 19, 20, 21, 22] rfl hH ?_ ?_
   ·intro V hV; go_simp
   try simp only [Act.put, lay_]
   refine tk_ 15 (.int .i64 (i : Int)) [16, 17, 18, 19, 20, 21, 22] rfl hH ?_ ?_
   ·intro V hV; go_simp
   try simp only [Act.put, lay_]
   refine tk_ 16 (.pointer (some (ad.add (i * 4)))) [17, 18, 19, 20, 21, 22] rfl hH ?_ ?_
   ·intro V hV; go_simp
   try simp only [Act.put, lay_]
   refine tk_ 17 (.pointer (some ⟨(ad.add (i * 4)).block, (ad.add (i * 4)).off + 3, none⟩)) [18, 19, 20, 21, 22] rfl hH ?_ ?_
   ·intro V hV; go_simp
   try simp only [Act.put, lay_]
   refine tk_ 18 (.int .i64 v.r.next) [19, 20, 21, 22] rfl hH ?_ ?_
   ·intro V hV; have z0 := (hV.cell (cell_lt b3)).trans b3; go_simp
   try simp only [Act.put, lay_]
   refine wpAnyN_one (i := 7) (by kernel_rfl) rfl (fun K hK => ?_)
   go_simp
   have hH3 : Below W2.heap.size W2 (W2.drew.alloc (.cells #[] 5)) := hH.alloc (Nat.le_refl _) _
   have HO3 := Lib.hid (show Owb (W2.drew.alloc (.cells #[] 5)) W2.heap.size (some ⟨W2.heap.size, 0, none⟩) 0 0 [] from World.ownsRow_lit W2.drew #[] 0 (Nat.le_refl _) (Nat.zero_le _) rfl)
   have HT3 := Lib.hid ((((HT2.out.below hT0 HB2.out).bs (Nat.le_trans hT0 HB2.out.size)).below hH3))
   refine hK.out _ _ (.inr hH3) ?_
   clear hK K hH
   try simp only [Act.put, lay_]
   refine wpAnyN_one (i := 13) (by kernel_rfl) rfl (fun K hK => ?_)
   rw [if_pos (by rfl)]
   refine wp_append_bs _ _ _ 37 rfl W2.heap.size 5 rowB (.slice (some ⟨W2.heap.size, 0, none⟩) 0 0) 0 [] rfl HO3.out W2.heap.size v.A2 v.r.out.length v.c2 v.r.out rfl HT3.out (by omega) hH3.size ?_
   intro A4 k4 W4 ho4 hg4 _
   have hH4 : Below W2.heap.size W2 W4 := hH3.trans (HO3.out.grew hg4 hH3.size)
   have HO4 := Lib.hid (show Owb W4 W2.heap.size A4 v.r.out.length k4 v.r.out by rw [Nat.zero_add, List.nil_append] at ho4; exact ho4)
   rw [Nat.zero_add]
   refine hK.out _ _ (.inr hH4) ?_
   clear hK K hH3 ho4 hg4
   try simp only [Act.put, lay_]
   refine wpAnyN_one (i := 19) (by kernel_rfl) rfl (fun K hK => ?_)
   go_simp
   refine hK.out _ _ (.inr hH4) ?_
   clear hK K
   try simp only [Act.put, lay_]
   have hc5 := Cel.new W4 61 [.int .i64 v.r.state, .slice A1 v.r.line.length k1, .slice A4 v.r.out.length k4, .int .i64 v.r.next]
   have hw5 : Below W4.heap.size W4 (W4.alloc (.cells #[.int .i64 v.r.state, .slice A1 v.r.line.length k1, .slice A4 v.r.out.length k4, .int .i64 v.r.next] 61)) := (Below.refl _ _).alloc (Nat.le_refl _) _
   have hH5 : Below W2.heap.size W2 (W4.alloc (.cells #[.int .i64 v.r.state, .slice A1 v.r.line.length k1, .slice A4 v.r.out.length k4, .int .i64 v.r.next] 61)) := hH4.trans (hw5.mono hH4.size)
   have HSRC := Lib.hid (Ry.src (m := 1) (Ry.of_cel hc5) (by simp))
   have HR5 := Lib.hid ((HRA.out.below (HB2.out.trans (hH4.mono HB2.out.size))).below hw5)
   have HT5 := Lib.hid (And.intro ((By.of_own HO2.out).below (hH4.trans (hw5.mono hH4.size))) ((By.of_own HO4.out).below hw5))
   have HB5 := Lib.hid (HB.out.trans ((HB2.out.mono HB.out.size).trans (hH5.mono (Nat.le_trans HB.out.size HB2.out.size))))
   clear hc5
   refine wpAnyN_one (i := 20) (by kernel_rfl) rfl (fun K hK => ?_)
   go_simp
   refine hK.out _ _ (.inr hH5) ?_
   clear hK K hH4 hH5 hw5
   try simp only [Act.put, lay_]
   refine wpAnyN_one (i := 21) (by kernel_rfl) rfl (fun K hK => ?_)
   rw [if_pos (by rfl)]
   refine wp_append_any _ _ _ 30 rfl w.heap.size 61 rowRu (.slice A3 i c3) i (rflat ys) rfl HR5.out.own (some ⟨W4.heap.size, 0, none⟩) 1 1 [.int .i64 v.r.state, .slice A1 v.r.line.length k1, .slice A4 v.r.out.length k4, .int .i64 v.r.next] rfl rfl HSRC.out (by intro u hu; simp at hu; rcases hu with rfl | rfl | rfl | rfl <;> rfl) (i + 1) _ rfl rfl (by unfold maxLen; omega) (by omega) HB5.out.size ?_
   intro A8 c8 w8 ho8 hg8 _
   have HR8 := Lib.hid (HR5.out.pushed (v := ⟨v.r, A1, k1, A4, k4⟩) HT5.out hg8 (by rw [rflat_app]; exact ho8))
   have HB8 := Lib.hid (HB5.out.trans (HR5.out.grew hg8 HB5.out.size))
   clear ho8 hg8
   refine hK.out _ _ (.inl (by decide)) ?_
   clear hK K
   try simp only [Act.put, lay_]
   refine wpAnyN_one (i := 22) (by kernel_rfl) rfl (fun K hK => ?_)
   go_simp
   refine hK.out _ _ (.inl (by decide)) ?_
   clear hK K
   try simp only [Act.put, lay_]
   refine wpAnyN_done (by kernel_rfl) ?_ _
   go_wp2_with fail
   exact ⟨⟨i + 1, c8, A8, _, by omega, by rw [show ((i + 1 : Nat) : Int) = (i : Int) + 1 by omega], rfl, HR8.out, by rw [List.take_add_one, HV.out, List.map_append, List.map_append, HYS.out]; rfl, HB8.out⟩, by simp [intOf]; omega⟩
  ·obtain rfl : i = n := by omega
   have HYE := Lib.hid (show ys.map (·.r) = vs.map (·.r) by have := HYS.out; rwa [List.take_of_length_le (by rw [HL.out]; exact Nat.le_refl _)] at this)
   go_wp2_with fail
   go_ret
   exact ⟨A3, c3, ys, rfl, HRA.out, HYE.out, HB.out⟩
end Go.Proofs.Ytnjmdgnghidjhaa.Peer
end
section
namespace Go.Proofs.Ytnjmdgnghidjhaa.Peer
open Go.RowKit Go.Proofs.Ytnjmdgnghidjhaa.Ord
open Lex (Tx)
open Rec (Vt Tvs Trow txt)
open Vars (scell)
structure Dvm where
 s : Int
 pt : List B
 lg : List B
 ls : List Vt
 PA : Option Addr
 pc : Nat
 LA : Option Addr
 lc : Nat
 A : Option Addr
 c : Nat
def Dvm.cells (v : Dvm) : List Value := [.int .i64 v.s, .slice v.PA v.pt.length v.pc, .slice v.LA v.lg.length v.lc, .slice v.A v.ls.length v.c]
def Dvm.m (v : Dvm) : Pe := ⟨v.s, v.pt, v.lg, txt v.ls⟩
structure Dok (w : World) (T : Nat) (v : Dvm) : Prop where
 pt : Tx w T v.PA v.pt
 lg : Tx w T v.LA v.lg
 ls : Tvs w T v.A v.ls
 row : Trow w T v.A v.ls
theorem Dok.below {w w' : World} {T : Nat} {v : Dvm} (h : Dok w T v) (hT : T ≤ w.heap.size) (hb : Below w.heap.size w w') : Dok w' T v := ⟨h.pt.below hT hb, h.lg.below hT hb, h.ls.below hT hb, h.row.below hb⟩
theorem Dok.frm {w w' : World} {T g : Nat} {v : Dvm} {t : TypeId} {cs : List Value} (h : Dok w T v) (hT : T ≤ w.heap.size) (hf : Frm [g] w w') (hg : T ≤ g) (hc : Cel w g t cs) (h1 : t ≠ 5) (h2 : t ≠ 37) : Dok w' T v := by
 obtain ⟨q1, q2⟩ := h.ls.frm h.row hf (fun q hq => by simp at hq; subst hq; exact ⟨hg, hc.not_ty h1, hc.not_ty h2⟩)
 exact ⟨tx_frm h.pt hf hg (hc.not_ty h1) hT, tx_frm h.lg hf hg (hc.not_ty h1) hT, q1, q2⟩
def PfSays (w : World) (T : Nat) (p : Pe) (e : Ending) (w' : World) : Prop := ∃ v : Dvm, e = .returned (.agg v.cells.toArray) ∧ Below w.heap.size w w' ∧ Dok w' T v ∧ v.m = p
def Rfew (vs : List Rl) (n : Nat) : Prop := vs.length = n ∧ n ≤ 20 ∧ ∀ v ∈ vs, v.r.line.length ≤ 60 ∧ v.r.out.length ≤ 60
def Dfew (v : Dvm) : Prop := v.pt.length ≤ 400 ∧ v.lg.length ≤ 1000000 ∧ v.ls.length ≤ 10000 ∧ ∀ l ∈ v.ls, l.t.length ≤ 400
def PFeed : Prop := ∀ (w : World) (T : Nat), T ≤ w.heap.size → ∀ (AR : Option Addr) (n c : Nat) (vs : List Rl), Rls w T AR vs → Rfew vs n → ∀ v : Dvm, Dok w T v → Dfew v → ∀ (D : Nat) (AB : Option Addr) (m cb : Nat) (bs : List B), Bs w D AB m bs → D ≤ w.heap.size → m ≤ cb → m ≤ 1000 →
 Calls Try.prog 29 #[.slice AR n c, .agg v.cells.toArray, .slice AB m cb] w (PfSays w T (feedR (vs.map (·.r)) v.m bs))
theorem lns_of {w : World} {A : Option Addr} {ls : List (List B)} (h : Lnr w A ls) : Lns w A (ls.map str) := fun i x hi => by
 have hne : ls.map scell ≠ [] := fun e => by
  have := congrArg List.length e
  simp at this
  rw [this] at hi
  simp at hi
 obtain ⟨ad, e, _, hc⟩ := h hne
 refine ⟨ad, e, ?_⟩
 rw [List.getElem?_map] at hi
 cases hl : ls[i]? with
 | none => rw [hl] at hi; cases hi
 | some l =>
  rw [hl] at hi
  injection hi with hi
  subst hi
  exact hc i _ (by rw [List.getElem?_map, hl]; rfl)
theorem as17v (w : World) (T : Nat) (v : Dvm) (h : Dok w T v) (hT : T ≤ w.heap.size) (hn : v.ls.length ≤ 100000) :
  Calls Try.prog 17 #[.agg v.cells.toArray] w (AsSays w v.s v.pt v.lg v.ls.length v.ls) := as17 w T v.s v.PA v.pc v.pt v.LA v.lc v.lg v.A v.ls.length v.c v.ls h.pt h.lg h.ls hT rfl hn
theorem same17p (w : World) (p : Pe) (A1 A2 : Option Addr) (n c1 c2 : Nat) (h1 : Lnr w A1 p.lines) (h2 : Lnr w A2 p.lines) (hl : p.lines.length = n) (hn : n ≤ 100000) :
  Calls Try.prog 16 #[.agg #[.int .i64 p.state, .string (str p.part), .string (str p.log), .slice A1 n c1], .agg #[.int .i64 p.state, .string (str p.part), .string (str p.log), .slice A2 n c2]] w fun e w' => e = .returned (.bool true) ∧ Below w.heap.size w w' :=
 same17 w p.state (str p.part) (str p.log) A1 A2 n c1 c2 (p.lines.map str) (lns_of h1) (lns_of h2) (by rw [List.length_map]; exact hl) (by unfold maxLen; omega)
theorem feed_dfew {vs : List Rl} {n : Nat} (hr : Rfew vs n) {p : Pe} (hp : p.part.length ≤ 400) (bs : List B) (hl : ∀ l ∈ p.lines, l.length ≤ 400) :
  (feedR (vs.map (·.r)) p bs).part.length ≤ 400 ∧ (feedR (vs.map (·.r)) p bs).log.length ≤ p.log.length + 60 * bs.length ∧ (feedR (vs.map (·.r)) p bs).lines.length ≤ p.lines.length + bs.length ∧ ∀ l ∈ (feedR (vs.map (·.r)) p bs).lines, l.length ≤ 400 := by
 induction bs generalizing p with
 | nil => exact ⟨hp, by simp [feed_nil], by simp [feed_nil], hl⟩
 | cons c bs ih =>
  rw [feed_cons]
  have hk : ∀ r ∈ vs.map (·.r), r.out.length ≤ 60 := fun r hr' => by
   obtain ⟨v, hv, rfl⟩ := List.mem_map.1 hr'
   exact (hr.2.2 v hv).2
  obtain ⟨b1, b2, b3⟩ := byte_sizes (rs := vs.map (·.r)) (p := p) (c := c) hk
  have b4 : ∀ l ∈ (byteR (vs.map (·.r)) p c).lines, l.length ≤ 400 := by
   intro l hm
   unfold byteR at hm
   split at hm
   ·unfold lineR at hm
    split at hm
    ·rcases List.mem_append.1 hm with hm | hm
     ·exact hl l hm
     ·simp at hm; rw [hm]; exact hp
    ·rcases List.mem_append.1 hm with hm | hm
     ·exact hl l hm
     ·simp at hm; rw [hm]; exact hp
   ·split at hm
    ·exact hl l hm
    ·split at hm <;> exact hl l hm
  obtain ⟨q1, q2, q3, q4⟩ := ih (p := byteR (vs.map (·.r)) p c) (by omega) b4
  refine ⟨q1, ?_, ?_, q4⟩
  ·rw [List.length_cons]; omega
  ·rw [List.length_cons]; omega
end Go.Proofs.Ytnjmdgnghidjhaa.Peer
end
section
namespace Go.Proofs.Ytnjmdgnghidjhaa.Peer
open Go.RowKit Go.Proofs.Ytnjmdgnghidjhaa.Ord
open Lex (Owb lit_one rowB)
theorem str_at {l : List (BitVec 8)} {k j : Nat} {y : BitVec 8} (h : l[j]? = some y) (e : k = j) (hk : k < (str l).size) : ((str l)[k]'hk).toNat = y.toNat := by
 subst e
 obtain ⟨hl, hy⟩ := List.getElem?_eq_some_iff.1 h
 show (((l.map UInt8.ofBitVec).toArray)[k]'(by simpa using hl)).toNat = y.toNat
 simp [hy]
theorem frm_below {l : List Nat} {w w1 w2 : World} (hf : Frm l w w1) (hb : Below w.heap.size w1 w2) : Frm l w w2 :=
 ⟨hb.os.trans hf.os, hb.tape.trans hf.tape, hb.output.trans hf.output, Nat.le_trans hf.size hb.size, fun k hk hn => (hb.block k hk).trans (hf.block k hk hn)⟩
def RdSays (w : World) (g : Nat) (R : Value) (p : Pe) (A : Option Addr) (nl k : Nat) (a2 : Nat) (out : List B) (e : Ending) (w' : World) : Prop :=
 ∃ A' c', e = .returned (.slice A' out.length c') ∧ Owb w' w.heap.size A' out.length c' out ∧ Frm [g] w w' ∧ Lkm w' g R p A nl k (a2 : Int)
theorem read_ (w : World) (g : Nat) (R : Value) (p : Pe) (AL : Option Addr) (nl cl a : Nat) (hk : Lkm w g R p AL nl cl (a : Int)) (most : Int) (hlog : p.log.length ≤ 1000000) (ha : a ≤ 1000000) :
  Calls Try.prog 13 #[.pointer (some ⟨g, 0, none⟩), .int .i64 most] w (RdSays w g R p AL nl cl (a + min most.toNat (p.log.length - a)) ((p.log.drop a).take most.toNat)) := by
 have HK := Lib.hid hk
 have hglt := hk.cel.lt
 have HLS := Lib.hid (strP_size p.log)
 clear hk
 go_enter Try.func13, Try.ntmps13
 go_wp2_with fail
 go_loopw [5, 6] (fun v5 v6 wr => ∃ (i : Nat) (A5 : Option Addr) (c5 : Nat), v6 = .int .i64 (i : Int) ∧ v5 = .slice A5 i c5 ∧ Frm [g] w wr ∧ Lkm wr g R p AL nl cl ((a + i : Nat) : Int) ∧ Owb wr w.heap.size A5 i c5 ((p.log.drop a).take i) ∧ i ≤ p.log.length - a ∧ (i = 0 ∨ (i : Int) ≤ most)) (fun _ v6 _ => p.log.length - (intOf v6).toNat)
 case atStart => exact ⟨0, none, 0, rfl, rfl, Frm.refl _ _, HK.out, by rw [List.take_zero]; exact Lex.Owb.nil_ _ _, Nat.zero_le _, Or.inl rfl⟩
 case round =>
  clear HK
  obtain ⟨i, A5, c5, rfl, rfl, hf, hp, ho, hia, hir⟩ := hrel
  obtain ⟨V1, hV1⟩ : ∃ V1, V1 = wr := ⟨_, rfl⟩
  rw [← hV1] at hf hp ho ⊢
  clear hV1
  have HF := Lib.hid hf
  have HP := Lib.hid hp
  have HO := Lib.hid ho
  have k3 := hp.cel.cell 3
  have k5 := hp.cel.cell 5
  change _ = some (Value.string (str p.log)) at k3
  change _ = some (Value.int .i64 ((a + i : Nat) : Int)) at k5
  by_cases hrm : (i : Int) < most
  ·by_cases hlt : a + i < p.log.length
   ·have z2 : (((a + i : Nat) : Int) < (p.log.length : Int)) := by omega
    have hls := HLS.out
    obtain ⟨y, hy⟩ : ∃ y, p.log[a + i]? = some y := ⟨_, List.getElem?_eq_getElem hlt⟩
    have HY := Lib.hid hy
    have HLT := Lib.hid z2
    rw [show ((a + i : Nat) : Int) = (a : Int) + (i : Int) by omega] at HLT
    clear hf hp ho hy
    go_wp2_with fail
    go_quiet (fail)
    go_upto_region 5 with fail
    have hH : Cel (V1.drewN nq).drew g 36 [R, .int .i64 p.state, .string (str p.part), .string (str p.log), .slice AL nl cl, .int .i64 ((a + i : Nat) : Int)] := (HP.out.below (Lex.lbelow_drew (Below.refl _ V1) (nq + 1))).cel
    refine wp_region_N [13] (fun V => Cel V g 36 [R, .int .i64 p.state, .string (str p.part), .string (str p.log), .slice AL nl cl, .int .i64 ((a + i : Nat) : Int)]) (by kernel_rfl) ?_
    refine tk_ 0 (.slice A5 i c5) [13] rfl hH ?_ ?_
    ·intro V hV; go_simp
    try simp only [Act.put, lay_]
    refine tk_ 1 (.pointer (some ⟨g, 0, none⟩)) [13] rfl hH ?_ ?_
    ·intro V hV; go_simp
    try simp only [Act.put, lay_]
    refine tk_ 2 (.pointer (some ⟨g, 0, none⟩)) [13] rfl hH ?_ ?_
    ·intro V hV; go_simp
    try simp only [Act.put, lay_]
    refine tk_ 3 (.pointer (some ⟨g, 1, none⟩)) [13] rfl hH ?_ ?_
    ·intro V hV; go_simp
    try simp only [Act.put, lay_]
    refine tk_ 4 (.pointer (some ⟨g, 3, none⟩)) [13] rfl hH ?_ ?_
    ·intro V hV; go_simp
    try simp only [Act.put, lay_]
    refine tk_ 5 (.string (str p.log)) [13] rfl hH ?_ ?_
    ·intro V hV; have hc := hV; have q3 := hc.cell 3; have q5 := hc.cell 5; change _ = some (Value.string (str p.log)) at q3; change _ = some (Value.int .i64 ((a + i : Nat) : Int)) at q5; go_simp
    try simp only [Act.put, lay_]
    refine tk_ 6 (.pointer (some ⟨g, 0, none⟩)) [13] rfl hH ?_ ?_
    ·intro V hV; go_simp
    try simp only [Act.put, lay_]
    refine tk_ 7 (.pointer (some ⟨g, 0, none⟩)) [13] rfl hH ?_ ?_
    ·intro V hV; go_simp
    try simp only [Act.put, lay_]
    refine tk_ 8 (.pointer (some ⟨g, 5, none⟩)) [13] rfl hH ?_ ?_
    ·intro V hV; go_simp
    try simp only [Act.put, lay_]
    refine tk_ 9 (.int .i64 ((a : Int) + (i : Int))) [13] rfl hH ?_ ?_
    ·intro V hV; have hc := hV; have q3 := hc.cell 3; have q5 := hc.cell 5; change _ = some (Value.string (str p.log)) at q3; change _ = some (Value.int .i64 ((a + i : Nat) : Int)) at q5; go_simp
    try simp only [Act.put, lay_]
    refine tk_ 10 (v8 y) [13] rfl hH ?_ ?_
    ·intro V hV; have hls := HLS.out; have e1 : (0 : Int) ≤ (a : Int) + (i : Int) := (by omega); have e2 : (a : Int) + (i : Int) < (p.log.length : Int) := HLT.out; go_simp; exact congrArg (Nat.cast (R := Int)) (str_at HY.out (by omega) _)
    try simp only [Act.put, lay_]
    refine wpAnyN_one (i := 11) (by kernel_rfl) rfl (fun K hK => ?_)
    go_simp
    have hb6 : Below V1.heap.size V1 ((V1.drewN (nq + 1)).alloc (.cells #[v8 y] 5)) := (Lex.lbelow_drew (Below.refl _ V1) (nq + 1)).alloc (Nat.le_refl _) _
    have hH6 : Cel ((V1.drewN (nq + 1)).alloc (.cells #[v8 y] 5)) g 36 [R, .int .i64 p.state, .string (str p.part), .string (str p.log), .slice AL nl cl, .int .i64 ((a + i : Nat) : Int)] := (HP.out.below hb6).cel
    have HP6 := Lib.hid (HP.out.below hb6)
    have HO6 := Lib.hid (HO.out.below hb6)
    have HF6 := Lib.hid (HF.out.trans (Frm.of_below hb6) : Frm [g] w _)
    have HSZ6 := Lib.hid (show w.heap.size ≤ ((V1.drewN (nq + 1)).alloc (.cells #[v8 y] 5)).heap.size from HF6.out.size)
    refine hK.out _ _ (.inr hH6) ?_
    clear hK K hb6 hH hH6
    try simp only [Act.put, lay_]
    refine wpAnyN_one (i := 12) (by kernel_rfl) rfl (fun K hK => ?_)
    rw [if_pos (by rfl)]
    refine wp_append_bs _ _ _ 37 rfl w.heap.size 5 rowB (.slice A5 i c5) i ((p.log.drop a).take i) rfl HO6.out (V1.heap.size + 1) (some ⟨V1.heap.size, 0, none⟩) 1 1 [y] rfl (lit_one (V1.drewN (nq + 1)) y) (by omega) HSZ6.out ?_
    intro A8 c8 w8 ho8 hg8 _
    have hH8 := Cel.grown HP6.out.cel hg8 (own_ty_ne HO6.out HP6.out.cel (by decide))
    have HF8 := Lib.hid (show Frm [g] w w8 from frm_below HF6.out (HO6.out.grew hg8 HSZ6.out))
    have HL8 := Lib.hid (show Lnr w8 AL p.lines from HP6.out.lns.frm ((Frm.refl (Value.slice A5 i c5).ownBlock.toList _).grown hg8 (fun k e _ => by rw [e]; simp)) fun q hq o fz => own_not_ty HO6.out (by decide) q o fz (by simpa using hq))
    have HO8 := Lib.hid (show Owb w8 w.heap.size A8 (i + 1) c8 ((p.log.drop a).take (i + 1)) by
     rw [List.take_add_one, List.getElem?_drop, HY.out]; exact ho8)
    have hls := HLS.out
    have e2 := HLT.out
    have k5 := hH8.cell 5
    have f5 := hH8.free 5
    change _ = some (Value.int .i64 ((a + i : Nat) : Int)) at k5
    have HH8 := Lib.hid hH8
    have HC9 := Lib.hid (hH8.set 5 (.int .i64 ((a : Int) + (i : Int) + 1)))
    have HF9 := Lib.hid ((Frm.refl [g] w8).set (p := ⟨g, 5, none⟩) (by simp) (.int .i64 ((a : Int) + (i : Int) + 1)))
    refine hK.out _ _ (.inr hH8) ?_
    clear hK K ho8 hg8
    try simp only [Act.put, lay_]
    refine wpAnyN_one (i := 13) (by kernel_rfl) rfl (fun K hK => ?_)
    go_simp
    refine hK.out _ _ (.inr hH8) ?_
    clear hK K hH8
    try simp only [Act.put, lay_]
    refine wpAnyN_done (by kernel_rfl) ?_ _
    go_wp2_with fail
    exact ⟨⟨i + 1, A8, c8, by rw [show ((i + 1 : Nat) : Int) = (i : Int) + 1 by omega], rfl, HF8.out.trans HF9.out, ⟨by have := HC9.out; rw [show ((a + (i + 1) : Nat) : Int) = (a : Int) + (i : Int) + 1 by omega]; exact this, HL8.out.frm HF9.out fun r hr => by rw [List.mem_singleton.1 hr]; exact Cel.not_ty HH8.out (by decide), HP.out.len⟩, own_frm HO8.out HF9.out (fun r hr => by rw [List.mem_singleton.1 hr]; exact own_ty_ne HO8.out HH8.out (by decide)), by omega, Or.inr (by omega)⟩, by simp [intOf]; omega⟩
   ·have z2 : decide (((a + i : Nat) : Int) < (p.log.length : Int)) = false := decide_eq_false (by omega)
    have hls := HLS.out
    have HE := Lib.hid (show (p.log.drop a).take most.toNat = (p.log.drop a).take i ∧ min most.toNat (p.log.length - a) = i from ⟨by rw [List.take_of_length_le (by rw [List.length_drop]; omega), List.take_of_length_le (by rw [List.length_drop]; omega)], by omega⟩)
    clear hf hp ho
    go_wp2_with fail
    go_quiet (fail)
    go_wp2_with fail
    go_ret
    rw [HE.out.1, HE.out.2]
    have hbz : Below V1.heap.size V1 (V1.drewN nq) := Lex.lbelow_drew (Below.refl _ V1) nq
    have hln := HO.out.len
    exact ⟨A5, c5, by rw [hln]; rfl, by rw [hln]; exact HO.out.below hbz, HF.out.trans (Frm.of_below hbz), HP.out.below hbz⟩
  ·have z1 : decide ((i : Int) < most) = false := decide_eq_false hrm
   have HE := Lib.hid (show (p.log.drop a).take most.toNat = (p.log.drop a).take i ∧ min most.toNat (p.log.length - a) = i from ⟨by rw [show most.toNat = i by omega], by omega⟩)
   clear hf hp ho
   go_wp2_with fail
   go_quiet (fail)
   go_wp2_with fail
   go_ret
   rw [HE.out.1, HE.out.2]
   have hbz : Below V1.heap.size V1 (V1.drewN nq) := Lex.lbelow_drew (Below.refl _ V1) nq
   have hln := HO.out.len
   exact ⟨A5, c5, by rw [hln]; rfl, by rw [hln]; exact HO.out.below hbz, HF.out.trans (Frm.of_below hbz), HP.out.below hbz⟩
end Go.Proofs.Ytnjmdgnghidjhaa.Peer
end
section
namespace Go.Proofs.Ytnjmdgnghidjhaa.Peer
open Go.RowKit
def AtSays (w : World) (g : Nat) (n o : Int) (e : Ending) (w' : World) : Prop := (o < 0 ∨ n < o → e = .returned (.int .i64 1) ∧ w' = w) ∧ (¬ (o < 0 ∨ n < o) → e = .returned (.int .i64 0) ∧ w' = w.setCell ⟨g, 5, none⟩ (.int .i64 o))
theorem attach18 (w : World) (g : Nat) (R L : Value) (s a o : Int) (pt lg : ByteArray) (h : Cel w g 36 [R, .int .i64 s, .string pt, .string lg, L, .int .i64 a]) (hm : lg.size ≤ maxLen) :
  Calls Try.prog 15 #[.pointer (some ⟨g, 0, none⟩), .int .i64 o] w (AtSays w g lg.size o) := by
 have k3 := h.cell 3
 have k5 := h.cell 5
 have f5 := h.free 5
 have HC := Lib.hid h
 unfold maxLen at hm
 clear h
 by_cases h1 : o < 0
 ·have z1 : decide (o < 0) = true := by simpa using h1
  have HX := Lib.hid h1
  clear h1
  go_enter Try.func15, Try.ntmps15
  go_wp2_with fail
  go_ret
  exact ⟨fun _ => ⟨rfl, rfl⟩, fun h => absurd (Or.inl HX.out) h⟩
 ·have z1 : decide (o < 0) = false := by simpa using h1
  by_cases h2 : (lg.size : Int) < o
  ·have HX := Lib.hid h2
   have z2 : decide ((lg.size : Int) < o) = true := by simpa using h2
   clear h1 h2
   go_enter Try.func15, Try.ntmps15
   go_wp2_with fail
   go_ret
   exact ⟨fun _ => ⟨rfl, rfl⟩, fun h => absurd (Or.inr HX.out) h⟩
  ·have HX := Lib.hid (show ¬ (o < 0 ∨ (lg.size : Int) < o) by omega)
   have z2 : decide ((lg.size : Int) < o) = false := by simpa using h2
   clear h1 h2
   go_enter Try.func15, Try.ntmps15
   go_wp2_with fail
   go_ret
   exact ⟨fun h => absurd h HX.out, fun _ => ⟨rfl, rfl⟩⟩
end Go.Proofs.Ytnjmdgnghidjhaa.Peer
end
section
namespace Go.Proofs.Ytnjmdgnghidjhaa.Peer
open Go.RowKit
open Lex (Tx)
structure Dd where
 what : Int
 k : Int
 line : List B
 A : Option Addr
 c : Nat
def Dds (w : World) (T : Nat) (A : Option Addr) (ds : List Dd) : Prop := ∀ i d, ds[i]? = some d → ∃ ad, A = some ad ∧ w.cell? (ad.add (i * 3)) = some (.int .i64 d.what) ∧ w.cell? ⟨(ad.add (i * 3)).block, (ad.add (i * 3)).off + 1, none⟩ = some (.int .i64 d.k) ∧
 w.cell? ⟨(ad.add (i * 3)).block, (ad.add (i * 3)).off + 2, none⟩ = some (.slice d.A d.line.length d.c) ∧ Tx w T d.A d.line
theorem Dds.below {w w' : World} {T : Nat} {A : Option Addr} {ds : List Dd} (h : Dds w T A ds) (hT : T ≤ w.heap.size) (hb : Below w.heap.size w w') : Dds w' T A ds := fun i v hi => by
 obtain ⟨ad, e, h0, h1, h2, h3⟩ := h i v hi
 exact ⟨ad, e, (hb.cell (cell_lt h0)).trans h0, (hb.cell (cell_lt h1)).trans h1, (hb.cell (cell_lt h2)).trans h2, h3.below hT hb⟩
theorem fewDeeds (w : World) (T : Nat) (A : Option Addr) (n c : Nat) (ds : List Dd) (h : Dds w T A ds) (hl : ds.length = n) (hn : n ≤ maxLen) (hm : ∀ d ∈ ds, d.line.length ≤ maxLen) :
  Calls Try.prog 6 #[.slice A n c] w (LessSays w (n ≤ 30 ∧ ∀ d ∈ ds, d.line.length ≤ 100)) := by
 unfold maxLen at hn hm
 have HR := Lib.hid h
 have HL := Lib.hid hl
 have HM := Lib.hid hm
 clear h hl hm
 go_enter Try.func6, Try.ntmps6
 go_wp2_with fail
 go_loopw [3] (fun v3 wr => ∃ (i : Nat), i ≤ n ∧ v3 = .int .i64 (i : Int) ∧ w = wr ∧ Hid (∀ d ∈ ds.take i, d.line.length ≤ 100)) (fun v3 _ => n - (intOf v3).toNat)
 case atStart => exact ⟨0, Nat.zero_le _, rfl, rfl, Lib.hid (by simp)⟩
 case round =>
  obtain ⟨i, hi, rfl, rfl, HK⟩ := hrel
  rcases Nat.lt_or_ge i n with hlt | hge
  ·obtain ⟨v, hv⟩ : ∃ v, ds[i]? = some v := ⟨_, List.getElem?_eq_getElem (by rw [HL.out]; exact hlt)⟩
   obtain ⟨ad, rfl, _, _, a2, _⟩ := HR.out i v hv
   have hm2 := HM.out v (List.mem_of_getElem? hv)
   obtain ⟨k2, hk2⟩ : ∃ k, k = v.line.length := ⟨_, rfl⟩
   rw [← hk2] at a2 hm2
   have HN := Lib.hid (fun (h1 : k2 ≤ 100) => take_allP hv (P := fun v => v.line.length ≤ 100) HK.out (by rw [← hk2]; exact h1))
   generalize v.A = A2 at *
   generalize v.c = c2 at *
   clear hv hk2
   by_cases h1 : 100 < k2
   ·have z1 : (100 : Int) < (k2 : Int) := by omega
    clear h1
    go_wp2_with fail
    go_ret
    exact ⟨false, rfl, Below.refl _ _, fun h => by cases h⟩
   ·have z1 : decide ((100 : Int) < (k2 : Int)) = false := by simp; omega
    have HN2 := Lib.hid (HN.out (by omega))
    clear h1
    go_wp2_with fail
    exact ⟨⟨i + 1, by omega, by rw [show ((i + 1 : Nat) : Int) = (i : Int) + 1 by omega], by trivial, HN2⟩, by simp [intOf]; omega⟩
  ·have HN := Lib.hid (show ∀ d ∈ ds, d.line.length ≤ 100 from fun v hv => HK.out v (by rw [List.take_of_length_le (by rw [HL.out]; exact hge)]; exact hv))
   have zi : decide ((i : Int) < (n : Int)) = false := by simp; omega
   by_cases h1 : n ≤ 30
   ·have HALL := Lib.hid (And.intro h1 HN.out)
    have z1 : decide ((n : Int) ≤ 30) = true := by simp; omega
    clear h1
    go_wp2_with fail
    go_ret
    exact ⟨true, rfl, Below.refl _ _, fun _ => HALL.out⟩
   ·have z1 : decide ((n : Int) ≤ 30) = false := by simp; omega
    clear h1
    go_wp2_with fail
    go_ret
    exact ⟨false, rfl, Below.refl _ _, fun h => by cases h⟩
end Go.Proofs.Ytnjmdgnghidjhaa.Peer
end
section
namespace Go.Proofs.Ytnjmdgnghidjhaa.Ord
open Go.RowKit
section
variable {P : Program} {ops : Array Oper} {Q : Exit → Act → World → Prop} {md : Region.Mode} {N : List Nat}
theorem wpAnyN_more {S S' : World → Prop} (h : ∀ w, S' w → S w) : ∀ (fuel : Nat) (listed : Array Bool) (a : Act) (w : World), wpAnyN P md ops Q S' N fuel listed a w → wpAnyN P md ops Q S N fuel listed a w
 | 0, _, _, _, H => H
 | fuel + 1, _, _, _, H => ⟨H.1, fun i hi => wpOp_mono (fun a' w' q => ⟨fun hn => h _ (q.1 hn), wpAnyN_more h fuel _ a' w' q.2⟩) (H.2 i hi)⟩
end
end Go.Proofs.Ytnjmdgnghidjhaa.Ord
end
