/-
Texts: BookCells BookSmall BookMany
-/
import Derived.Test.YteohlpmojfjjdaaGreatR0
import Derived.Test.YteohlpmojfjjdaaGreatR1
import Derived.Test.YteohlpmojfjjdaaGreatR2
import Derived.Test.YteohlpmojfjjdaaGreatR4
import Derived.Test.YteohlpmojfjjdaaGreatR7
import Derived.Test.YteohlpmojfjjdaaGreatR8
import Derived.Test.YteohlpmojfjjdaaGreatR13
import Derived.Test.YteohlpmojfjjdaaGreatR23
import Derived.Test.YteohlpmojfjjdaaGreatR26
set_option linter.unusedVariables false
set_option linter.unusedSimpArgs false
set_option maxRecDepth 100000
set_option maxHeartbeats 4000000
section
namespace Go.Proofs.YteohlpmojfjjdaaGreat.Book
open Go.RowKit
open Lex (Tok Tk B cut Tv Tx tflat Cr cr_ry Ptk Caps)
structure Px where
 A0 : Option Addr
 c0 : Nat
 A3 : Option Addr
 c3 : Nat
 A8 : Option Addr
 c8 : Nat
 A9 : Option Addr
 c9 : Nat
 A14 : Option Addr
 c14 : Nat
 rs : List Tv
 avs : List Av
 bvs : List Bv
def pcells (s : Ps) (x : Px) : List Value := [.slice x.A0 s.l.length x.c0, .int .i64 (s.at_ : Int), .int .i64 s.most, .slice x.A3 s.steps.length x.c3,
 .int .i64 (s.step.at_ : Int), .string (str s.step.name), .int .i64 s.step.tag, .bool s.step.sends, .slice x.A8 s.step.send.length x.c8, .slice x.A9 s.step.arms.length x.c9, .int .i64 s.step.time, .int .i64 s.step.try_, .string (str s.step.els),
 .int .i64 (s.arm.at_ : Int), .slice x.A14 s.arm.pat.length x.c14, .string (str s.arm.as_), .string (str s.arm.go)]
structure Rest (W : World) (l : T) (x : Px) : Prop where
 ptk : Ptk W 0 x.A0 x.rs
 tok : toks x.rs = l
 cap : x.rs.length ≤ x.c0
 caps : Caps x.rs
def Rlo (w : World) (K : Nat) (A : Option Addr) (cs : List Value) : Prop :=
 cs ≠ [] → ∃ ad, A = some ad ∧ ad.block < K ∧ (∃ o fz, w.heap[ad.block]? = some (.cells o 56 fz)) ∧ ∀ j u, cs[j]? = some u → w.cell? (ad.add j) = some u
theorem Rlo.keep {w w' : World} {K : Nat} {A : Option Addr} {cs : List Value} (h : Rlo w K A cs) (hk : ∀ (k : Nat) o fz, k < K → w.heap[k]? = some (Obj.cells o 56 fz) → w'.heap[k]? = w.heap[k]?) : Rlo w' K A cs := fun hn => by
 obtain ⟨ad, e, hK, ⟨o, fz, hb⟩, hc⟩ := h hn
 have h1 := hk _ _ _ hK hb
 exact ⟨ad, e, hK, ⟨o, fz, h1.trans hb⟩, fun j u hj => (World.cell?_of_block (by rw [add_block]; exact h1)).trans (hc j u hj)⟩
theorem Rlo.more {w : World} {K K' : Nat} {A : Option Addr} {cs : List Value} (h : Rlo w K A cs) (hK : K ≤ K') : Rlo w K' A cs := fun hn => by
 obtain ⟨ad, e, hl, hb, hc⟩ := h hn
 exact ⟨ad, e, by omega, hb, hc⟩
theorem Rlo.cr {w : World} {K : Nat} {A : Option Addr} {cs : List Value} (h : Rlo w K A cs) : Cr w A cs := fun hn => by
 obtain ⟨ad, e, hl, hb, hc⟩ := h hn
 exact ⟨ad, e, hc⟩
theorem Rlo.of_own {w : World} {base n c : Nat} {A : Option Addr} {cs : List Value} (h : w.ownsRow base 56 4 (.slice A n c) n cs) : Rlo w w.heap.size A cs := fun hn => by
 obtain ⟨ad, e, ⟨o, fz, hb⟩, hc⟩ := Ry.of_own h (by decide) hn
 exact ⟨ad, e, (Array.getElem?_eq_some_iff.1 hb).1, ⟨o, fz, hb⟩, hc⟩
structure Arms (W w : World) (K : Nat) (s : Ps) (x : Px) : Prop where
 own : w.ownsRow K 56 4 (.slice x.A9 s.step.arms.length x.c9) s.step.arms.length (aflat x.avs)
 am : x.avs.map (·.a) = s.step.arms
 tx : ∀ v ∈ x.avs, Tx W 0 v.A v.a.pat
structure Stps (W w : World) (K : Nat) (s : Ps) (x : Px) : Prop where
 own : w.ownsRow W.heap.size 52 9 (.slice x.A3 s.steps.length x.c3) s.steps.length (s9flat x.bvs)
 st : x.bvs.map (·.s) = s.steps
 tx : ∀ v ∈ x.bvs, Tc W 0 v.A4 v.c4 v.s.send
 ar : ∀ v ∈ x.bvs, Rlo w K v.A5 (aflat v.avs) ∧ v.avs.map (·.a) = v.s.arms ∧ ∀ u ∈ v.avs, Tx W 0 u.A u.a.pat
structure Pw (W w : World) (g K : Nat) (o : Bool) (s : Ps) (x : Px) : Prop where
 bel : Below W.heap.size W w
 gW : W.heap.size ≤ g
 cel : Cel w g 77 (pcells s x)
 rest : Rest W s.l x
 send : Tc W 0 x.A8 x.c8 s.step.send
 pat : Tx W 0 x.A14 s.arm.pat
 kW : W.heap.size ≤ K
 kw : K ≤ w.heap.size
 arms : o = true → Arms W w K s x
 stps : Stps W w K s x
def Pb (W w : World) (g : Nat) (o : Bool) (s : Ps) : Prop := ∃ K x, Pw W w g K o s x
theorem Pb.weak {W w : World} {g : Nat} {o : Bool} {s : Ps} (h : Pb W w g o s) : Pb W w g false s := by
 obtain ⟨K, x, h⟩ := h
 exact ⟨K, x, h.bel, h.gW, h.cel, h.rest, h.send, h.pat, h.kW, h.kw, fun e => (by cases e), h.stps⟩
theorem Rest.len {W : World} {l : T} {x : Px} (h : Rest W l x) : x.rs.length = l.length := by rw [← h.tok]; simp [toks]
section
variable {W w w' : World} {g K : Nat} {o : Bool} {s s' : Ps} {x x' : Px}
theorem Pw.below (h : Pw W w g K o s x) (hb : Below w.heap.size w w') : Pw W w' g K o s x :=
 ⟨h.bel.trans (hb.mono h.bel.size), h.gW, Cel.below h.cel hb h.cel.lt, h.rest, h.send, h.pat, h.kW, Nat.le_trans h.kw hb.size,
  fun e => ⟨own_frm (l := []) (h.arms e).own (Frm.of_below hb) (by simp), (h.arms e).am, (h.arms e).tx⟩,
  ⟨own_frm (l := []) h.stps.own (Frm.of_below hb) (by simp), h.stps.st, h.stps.tx, fun v hv => ⟨(h.stps.ar v hv).1.keep fun k o fz _ hk => hb.block k (Array.getElem?_eq_some_iff.1 hk).1, (h.stps.ar v hv).2⟩⟩⟩
theorem Pw.wrote (h : Pw W w g K o s x) (hf : Frm [g] w w') (hc : Cel w' g 77 (pcells s' x')) (hr : Rest W s'.l x') (hs : Tc W 0 x'.A8 x'.c8 s'.step.send) (hp : Tx W 0 x'.A14 s'.arm.pat)
  (ha : s'.step.arms = s.step.arms ∧ x'.A9 = x.A9 ∧ x'.c9 = x.c9 ∧ x'.avs = x.avs) (hb : s'.steps = s.steps ∧ x'.A3 = x.A3 ∧ x'.c3 = x.c3 ∧ x'.bvs = x.bvs) : Pw W w' g K o s' x' := by
 obtain ⟨a1, a2, a3, a4⟩ := ha
 obtain ⟨b1, b2, b3, b4⟩ := hb
 refine ⟨h.bel.trans (hf.below h.bel.size (by intro q hq; rw [List.mem_singleton.1 hq]; exact h.gW)), h.gW, hc, hr, hs, hp, h.kW, Nat.le_trans h.kw hf.size, fun e => ⟨?_, ?_, ?_⟩, ⟨?_, ?_, ?_, fun v hv => ?_⟩⟩
 ·rw [a1, a2, a3, a4]
  exact own_frm (h.arms e).own hf fun k hk => by rw [List.mem_singleton.1 hk]; exact own_ty_ne (h.arms e).own h.cel (by decide)
 ·rw [a1, a4]; exact (h.arms e).am
 ·rw [a4]; exact (h.arms e).tx
 ·rw [b1, b2, b3, b4]
  exact own_frm h.stps.own hf fun k hk => by rw [List.mem_singleton.1 hk]; exact own_ty_ne h.stps.own h.cel (by decide)
 ·rw [b1, b4]; exact h.stps.st
 ·rw [b4]; exact h.stps.tx
 ·rw [b4] at hv
  refine ⟨(h.stps.ar v hv).1.keep fun k o fz _ hk => hf.block k (Array.getElem?_eq_some_iff.1 hk).1 fun hm => ?_, (h.stps.ar v hv).2⟩
  rw [List.mem_singleton.1 hm] at hk
  exact Cel.not_ty h.cel (by decide) _ _ hk
theorem Pw.put (h : Pw W w g K o s x) {i : Nat} {u : Value} (hu : (pcells s x).set i u = pcells s' x') (hr : Rest W s'.l x') (hs : Tc W 0 x'.A8 x'.c8 s'.step.send) (hp : Tx W 0 x'.A14 s'.arm.pat)
  (ha : s'.step.arms = s.step.arms ∧ x'.A9 = x.A9 ∧ x'.c9 = x.c9 ∧ x'.avs = x.avs) (hb : s'.steps = s.steps ∧ x'.A3 = x.A3 ∧ x'.c3 = x.c3 ∧ x'.bvs = x.bvs) : Pw W (w.setCell ⟨g, i, none⟩ u) g K o s' x' :=
 h.wrote ((Frm.refl [g] w).set (by simp) _) (by have := h.cel.set i u; rwa [hu] at this) hr hs hp ha hb
theorem Pw.c (h : Pw W w g K o s x) (i : Nat) : w.cell? ⟨g, i, none⟩ = (pcells s x)[i]? := h.cel.cell i
theorem Pw.f (h : Pw W w g K o s x) (i : Nat) : w.frozen? ⟨g, i, none⟩ = false := h.cel.free i
theorem Rest.next {l : T} {y : Tok} {m : T} (h : Rest W l x) (hl : l = y :: m) (hb : Below W.heap.size W w) : ∃ v rs ad, x.rs = v :: rs ∧ v.t = y ∧ toks rs = m ∧ x.A0 = some ad ∧ Tc W 0 v.A v.c v.t.t.text ∧
  w.cell? ad = some (.int .i64 v.t.t.kind) ∧ w.cell? ⟨ad.block, ad.off + 1, none⟩ = some (.int .i64 (v.t.at_ : Int)) ∧ w.cell? ⟨ad.block, ad.off + 2, none⟩ = some (.int .i64 v.t.t.n) ∧ w.cell? ⟨ad.block, ad.off + 3, none⟩ = some (.slice v.A v.t.t.text.length v.c) := by
 have ht := h.tok
 rw [hl] at ht
 cases e : x.rs with
 | nil => rw [e] at ht; cases ht
 | cons v rs =>
  rw [e] at ht
  simp only [toks, List.map_cons, List.cons.injEq] at ht
  have h0 : x.rs[0]? = some v := by rw [e]; rfl
  obtain ⟨ad, hA, k0, k1, k2, k3⟩ := (h.ptk.below (Nat.zero_le _) hb).at_ h0
  have e0 : ad.add (0 * 4) = ad := by unfold Addr.add; simp
  rw [e0] at k0 k1 k2 k3
  exact ⟨v, rs, ad, rfl, ht.1, ht.2, hA, ⟨h.ptk.tx v (List.mem_of_getElem? h0), h.caps v (List.mem_of_getElem? h0)⟩, k0, k1, k2, k3⟩
def tookX (x : Px) (rs : List Tv) : Px := { x with A0 := if x.c0 = 1 then x.A0 else x.A0.map (·.add (1 * 4)), c0 := x.c0 - 1, rs := rs }
theorem Rest.took {l : T} {v : Tv} {rs : List Tv} (h : Rest W l x) (hx : x.rs = v :: rs) : Rest W (toks rs) (tookX x rs) := by
 have hc := h.cap
 rw [hx] at hc
 simp only [List.length_cons] at hc
 refine ⟨⟨fun hn => ?_, fun u hu => h.ptk.tx u (by rw [hx]; exact List.mem_cons_of_mem _ hu)⟩, rfl, by show rs.length ≤ x.c0 - 1; omega, fun u hu => h.caps u (by rw [hx]; exact List.mem_cons_of_mem _ hu)⟩
 have hr : rs ≠ [] := fun e => by rw [e] at hn; exact hn rfl
 have hl : 0 < rs.length := List.length_pos_iff.2 hr
 obtain ⟨ad, hA, hcell⟩ := h.ptk.ry (by rw [hx]; simp [tflat, Lex.Tv.cells])
 refine ⟨ad.add 4, ?_, fun j u hj => ?_⟩
 ·show (if x.c0 = 1 then x.A0 else x.A0.map (·.add (1 * 4))) = _
  rw [if_neg (by omega), hA]
  rfl
 ·rw [add_add]
  refine hcell _ _ ?_
  rw [hx]
  show (v.cells ++ tflat rs)[4 + j]? = some u
  rw [List.getElem?_append_right (by simp [Lex.Tv.cells])]
  have hj' : (tflat rs)[j]? = some u := hj
  simpa [Lex.Tv.cells] using hj'
def Pob : Obj → Prop
 | .cells _ t _ => t = 77 ∨ t = 56 ∨ t = 52
 | _ => False
structure Chp (w w' : World) : Prop where
 size : w.heap.size ≤ w'.heap.size
 block : ∀ (k : Nat) (o : Obj), w.heap[k]? = some o → ¬ Pob o → w'.heap[k]? = some o
theorem Chp.refl (w : World) : Chp w w := ⟨Nat.le_refl _, fun _ _ h _ => h⟩
theorem Chp.trans {w1 w2 : World} (h : Chp w w1) (h2 : Chp w1 w2) : Chp w w2 := ⟨Nat.le_trans h.size h2.size, fun k o hk hn => h2.block k o (h.block k o hk hn) hn⟩
theorem Chp.of_below (h : Below w.heap.size w w') : Chp w w' := ⟨h.size, fun k o hk _ => (h.block k (Array.getElem?_eq_some_iff.1 hk).1).trans hk⟩
theorem Chp.frm {cs : List Value} (hc : Cel w g 77 cs) (hf : Frm [g] w w') : Chp w w' := ⟨hf.size, fun k o hk hn => by
 refine (hf.block k (Array.getElem?_eq_some_iff.1 hk).1 fun hm => ?_).trans hk
 rw [List.mem_singleton.1 hm] at hk
 unfold Cel at hc
 rw [hc] at hk
 injection hk with hk
 subst hk
 exact hn (.inl rfl)⟩
theorem Chp.grown {base e size n : Nat} {v : Value} {us : List Value} (ho : w.ownsRow base e size v n us) (he : e = 56 ∨ e = 52) (hg : w.grownBy w' v.ownBlock) : Chp w w' := ⟨hg.size, fun k o hk hn => by
 refine (hg.block k (Array.getElem?_eq_some_iff.1 hk).1 fun hm => ?_).trans hk
 rcases ho.2 with ⟨rfl, _⟩ | ⟨g', cap, cur, rfl, _, h1, _⟩
 ·simp [Value.ownBlock] at hm
 ·obtain rfl : k = g' := by simpa [Value.ownBlock] using hm
  rw [h1] at hk
  injection hk with hk
  subst hk
  exact hn (.inr he)⟩
theorem Cel.chp {t : TypeId} {cs : List Value} {k : Nat} (h : Cel w k t cs) (hc : Chp w w') (hT : t ≠ 77 ∧ t ≠ 56 ∧ t ≠ 52) : Cel w' k t cs := hc.block _ _ h fun hp => by
 rcases hp with hp | hp | hp
 ·exact hT.1 hp
 ·exact hT.2.1 hp
 ·exact hT.2.2 hp
end
end Go.Proofs.YteohlpmojfjjdaaGreat.Book
end
section
namespace Go.Proofs.YteohlpmojfjjdaaGreat.Book
open Go.RowKit
open Lex (Tok Tk B cut Tv Tx tflat Cr cr_ry Ptk lbelow_drew)
section
variable {W w : World} {g K : Nat} {o : Bool} {s : Ps} {x : Px}
abbrev pp (g : Nat) : Value := .pointer (some ⟨g, 0, none⟩)
theorem isNext_ (h : Pw W w g K o s x) (k : Int) : Calls Tryz.prog 148 #[pp g, .int .i64 k] w fun e w' => e = .returned (.bool (kd k s.l)) ∧ w' = w := by
 have k0 := h.c 0
 change _ = some (Value.slice x.A0 s.l.length x.c0) at k0
 cases hl : s.l with
 | nil =>
  rw [hl] at k0
  clear h hl
  go_enter Tryz.func148, Tryz.ntmps148
  go_wp2_with fail
  go_ret
  exact ⟨rfl, rfl⟩
 | cons y m =>
  obtain ⟨v, rs, ad, hx, hv, ht, hA, htx, t0, t1, t2, t3⟩ := h.rest.next hl h.bel
  rw [hl, hA, List.length_cons] at k0
  subst hv
  have hK : (v.t.t.kind == k) = decide (v.t.t.kind = k) := by by_cases e : v.t.t.kind = k <;> simp [e]
  have HK := Lib.hid (show kd k (v.t :: m) = (v.t.t.kind == k) from hK.symm)
  generalize v.t.t.kind = vk at *
  generalize m.length = ml at *
  clear h hl hx ht hA htx t1 t2 t3 hK
  go_enter Tryz.func148, Tryz.ntmps148
  go_wp2_with fail
  go_ret
  exact ⟨by rw [HK.out]; rfl, rfl⟩
theorem load_tokP {w : World} {g : Nat} {x0 x1 x2 x3 : Value} (h : Cel w g 103 [x0, x1, x2, x3]) : (loadVar 103 ⟨g, 0, none⟩).run Tryz.prog w = .ok (.agg #[x0, x1, x2, x3]) w :=
 run_loadVar_mid (P := Tryz.prog) w g 0 103 [x0, x1, x2, x3] _ (fun j v hv => by rw [Nat.zero_add, h.cell j, hv]) Tryz.underlying103 rfl (by kernel_rfl)
theorem results_at1 {P : Program} {fn : Func} {tmps : Array Value} {w : World} (a : Tmp) (t : TypeId) (hr : fn.results = #[.cell a t]) (ad : Addr) (ha : tmps.getD a undef = .pointer (some ad)) (v : Value) (hl : (loadVar t ad).run P w = .ok v w) :
  (results fn tmps).run P w = .ok v w := by
 unfold results
 rw [hr]
 simp only [List.mapM_toArray, List.mapM_cons, List.mapM_nil, ha, asAddr]
 simp [hl]
def TkSays (W w : World) (g K : Nat) (o : Bool) (s : Ps) (x : Px) (y : Tok) (m : T) (e : Ending) (w' : World) : Prop := ∃ v rs, x.rs = v :: rs ∧ v.t = y ∧ toks rs = m ∧ Tc W 0 v.A v.c v.t.t.text ∧
 e = .returned (.agg #[.int .i64 v.t.t.kind, .int .i64 (v.t.at_ : Int), .int .i64 v.t.t.n, .slice v.A v.t.t.text.length v.c]) ∧ Pw W w' g K o (took s y m) (tookX x rs) ∧ Chp w w'
theorem take_ (h : Pw W w g K o s x) (y : Tok) (m : T) (hl : s.l = y :: m) : Calls Tryz.prog 149 #[pp g] w (TkSays W w g K o s x y m) := by
 obtain ⟨n, hn⟩ : ∃ n, n = m.length := ⟨_, rfl⟩
 obtain ⟨v, rs, ad, hx, hv, ht, hA, htx, t0, t1, t2, t3⟩ := h.rest.next hl h.bel
 have hlen := h.rest.len
 have k0 := h.c 0
 change _ = some (Value.slice x.A0 s.l.length x.c0) at k0
 rw [hl, hA, List.length_cons, ← hn] at k0
 have k1 := h.c 1
 change _ = some (Value.int .i64 (s.at_ : Int)) at k1
 have f0 := h.f 0
 have f1 := h.f 1
 have hgs : g < w.heap.size := h.cel.lt
 have had : ad.block < w.heap.size := cell_lt t0
 obtain ⟨A1, hA1⟩ : ∃ A1, A1 = (if x.c0 = 1 then x.A0 else x.A0.map (·.add (1 * 4))) := ⟨_, rfl⟩
 obtain ⟨c1, hc1⟩ : ∃ c1, c1 = x.c0 - 1 := ⟨_, rfl⟩
 have hcut : ∀ V : World, (Instr.sliceAt 72 (.slice (some ad) (n + 1) x.c0) (some (.int .i64 1)) none none).run Tryz.prog V = .ok (.slice A1 n c1) V := fun V => by
  have := run_cutFrom (P := Tryz.prog) V (t := 72) (e := 103) (size := 4) Tryz.underlying72 rfl (some ad) (n + 1) x.c0 1 .i64 (by omega)
  rw [hA1, hA, hc1]
  exact this
 have h4 : Pw W ((w.setCell ⟨g, 0, none⟩ (.slice A1 n c1)).setCell ⟨g, 1, none⟩ (.int .i64 (v.t.at_ : Int))) g K o (took s y m) (tookX x rs) := by
  subst hv
  have hr : Rest W m (tookX x rs) := by have := h.rest.took hx; rwa [ht] at this
  refine h.wrote (((Frm.refl [g] w).set (p := ⟨g, 0, none⟩) (by simp) _).set (p := ⟨g, 1, none⟩) (by simp) _) ?_ hr h.send h.pat ⟨rfl, rfl, rfl, rfl⟩ ⟨rfl, rfl, rfl, rfl⟩
  have := (h.cel.set 0 (.slice A1 n c1)).set 1 (.int .i64 (v.t.at_ : Int))
  rw [hA1, hn, hc1] at this ⊢
  exact this
 have H4 := Lib.hid h4
 have HC := Lib.hid (Chp.frm h.cel (((Frm.refl [g] w).set (p := ⟨g, 0, none⟩) (by simp) (.slice A1 n c1)).set (p := ⟨g, 1, none⟩) (by simp) (.int .i64 (v.t.at_ : Int))))
 have HX := Lib.hid (show x.rs = v :: rs ∧ v.t = y ∧ toks rs = m ∧ Tc W 0 v.A v.c v.t.t.text from ⟨hx, hv, ht, htx⟩)
 clear h hx hv ht htx hlen h4 hn hA1 hc1 hl
 go_enter Tryz.func149, Tryz.ntmps149
 go_wp2_with fail
 refine bodyPost_ret (v := .agg #[.int .i64 v.t.t.kind, .int .i64 (v.t.at_ : Int), .int .i64 v.t.t.n, .slice v.A v.t.t.text.length v.c]) (results_at1 2 103 Tryz.results149 ⟨w.heap.size, 0, none⟩ rfl _ (load_tokP ?_)) rfl ?_
 ·have hc := Cel.new ((w.setCell ⟨g, 0, none⟩ (.slice A1 n c1)).setCell ⟨g, 1, none⟩ (.int .i64 (v.t.at_ : Int))) 103 [.int .i64 v.t.t.kind, .int .i64 (v.t.at_ : Int), .int .i64 v.t.t.n, .slice v.A v.t.t.text.length v.c]
  have hc2 := Cel.alloc hc (.cells #[.int .i64 v.t.t.kind, .int .i64 (v.t.at_ : Int), .int .i64 v.t.t.n, .slice v.A v.t.t.text.length v.c] 103)
  simpa [World.setCell] using hc2
 ·obtain ⟨x1, x2, x3, x4⟩ := HX.out
  refine ⟨v, rs, x1, x2, x3, x4, rfl, (H4.out.below ((Below.refl _ _).alloc (Nat.le_refl _) _)).below ((Below.refl _ _).alloc (Nat.le_refl _) _), (HC.out.trans (Chp.of_below ((Below.refl _ _).alloc (Nat.le_refl _) _))).trans (Chp.of_below ((Below.refl _ _).alloc (Nat.le_refl _) _))⟩
theorem reached_ (h : Pw W w g K o s x) (n : Nat) : Calls Tryz.prog 23 #[pp g, .int .i64 (n : Int)] w fun e w' => e = .returned (.int .i64 (headAt n s.l : Int)) ∧ w' = w := by
 have k0 := h.c 0
 change _ = some (Value.slice x.A0 s.l.length x.c0) at k0
 cases hl : s.l with
 | nil =>
  rw [hl] at k0
  clear h hl
  go_enter Tryz.func23, Tryz.ntmps23
  go_wp2_with fail
  go_ret
  exact ⟨rfl, rfl⟩
 | cons y m =>
  obtain ⟨v, rs, ad, hx, hv, ht, hA, htx, t0, t1, t2, t3⟩ := h.rest.next hl h.bel
  rw [hl, hA, List.length_cons] at k0
  subst hv
  have hml : (((m.length : Nat) : Int) + 1 == 0) = false := by simp; omega
  generalize m.length = ml at *
  clear h hl hx ht hA htx t2 t3
  go_enter Tryz.func23, Tryz.ntmps23
  go_wp2_with fail
  go_ret
  exact ⟨rfl, rfl⟩
def HwSays (W w : World) (g K : Nat) (o : Bool) (s : Ps) (wo : List (BitVec 8)) (e : Ending) (w' : World) : Prop := e = .returned (.bool (wd wo s.l)) ∧ Chp w w' ∧ ∃ x', Pw W w' g K o (if wd wo s.l then takeS s else s) x'
theorem hasWord_ (h : Pw W w g K o s x) (wo : List (BitVec 8)) (sw : ByteArray) (hsw : sw = str wo) : Calls Tryz.prog 123 #[pp g, .string sw] w (HwSays W w g K o s wo) := by
 have con := isNext_ h 1
 cases hk : kd 1 s.l with
 | false =>
  rw [hk] at con
  have hw : wd wo s.l = false := by
   cases hl : s.l with
   | nil => rfl
   | cons y m => rw [hl] at hk; have hk' : decide (y.t.kind = 1) = false := hk; show (decide (y.t.kind = 1) && decide (y.t.text = wo)) = false; rw [hk']; rfl
  have HEND := Lib.hid (show HwSays W w g K o s wo (.returned (.bool false)) w from ⟨by rw [hw], Chp.refl _, x, by rw [hw]; exact h⟩)
  clear h hk hw
  go_enter Tryz.func123, Tryz.ntmps123
  go_wp2_with fail
  refine con.mono ?_
  clear con
  rintro e w1 ⟨rfl, rfl⟩
  go_wp2_with fail
  go_ret
  exact HEND.out
 | true =>
  rw [hk] at con
  obtain ⟨y, m, hl⟩ : ∃ y m, s.l = y :: m := by
   cases hl : s.l with
   | nil => rw [hl] at hk; cases hk
   | cons y m => exact ⟨y, m, rfl⟩
  obtain ⟨v, rs, ad, hx, hv, ht, hA, htx, t0, t1, t2, t3⟩ := h.rest.next hl h.bel
  have k0 := h.c 0
  change _ = some (Value.slice x.A0 s.l.length x.c0) at k0
  rw [hl, hA, List.length_cons] at k0
  have cont := take_ h y m hl
  have hst : ((str v.t.t.text).toList == sw.toList) = wd wo s.l := by
   rw [hsw, str_beq, hl]
   rw [hl] at hk
   have hk' : decide (y.t.kind = 1) = true := hk
   show _ = (decide (y.t.kind = 1) && decide (y.t.text = wo))
   rw [hk', hv]
   rfl
  have s1 : (convert 41 9 (.slice v.A v.t.t.text.length v.c)).run Tryz.prog w = .ok (.string (str v.t.t.text)) w := (Bs.bp ((htx.1.below (Nat.zero_le _) h.bel).bs (Nat.zero_le _))).string v.c Tryz.underlying41 Tryz.underlying5 Tryz.underlying9
  have HN := Lib.hid (show wd wo s.l = false → HwSays W w g K o s wo (.returned (.bool false)) w from fun hw => ⟨by rw [hw], Chp.refl _, x, by rw [hw]; exact h⟩)
  have HY := Lib.hid (show ∀ e w', wd wo s.l = true → TkSays W w g K o s x y m e w' → HwSays W w g K o s wo (.returned (.bool true)) w' from fun e w' hw ⟨v, rs, _, _, _, _, _, hp, hs⟩ => ⟨by rw [hw], hs, _, by rw [hw, if_pos rfl, takeS_cons hl]; exact hp⟩)
  obtain ⟨b, hb⟩ : ∃ b, b = wd wo s.l := ⟨_, rfl⟩
  rw [← hb] at hst HN HY
  generalize m.length = ml at *
  obtain ⟨st, hst'⟩ : ∃ st, st = str v.t.t.text := ⟨_, rfl⟩
  rw [← hst'] at hst s1
  generalize v.t.t.text.length = tl at *
  clear h hk hl hx hv ht hA htx hsw hst'
  cases b with
  | false =>
   clear cont hb
   go_enter Tryz.func123, Tryz.ntmps123
   go_wp2_with fail
   refine con.mono ?_
   clear con
   rintro e w1 ⟨rfl, rfl⟩
   go_wp2_with fail
   go_ret
   exact HN.out trivial
  | true =>
   clear hb
   go_enter Tryz.func123, Tryz.ntmps123
   go_wp2_with fail
   refine con.mono ?_
   clear con
   rintro e w1 ⟨rfl, rfl⟩
   go_wp2_with fail
   refine cont.mono ?_
   clear cont
   rintro e w2 htk
   have HT := Lib.hid (HY.out e w2 trivial htk)
   obtain ⟨v', rs', _, _, _, _, rfl, _⟩ := htk
   go_wp2_with fail
   go_ret
   exact HT.out
theorem fld_n (a b c d : Value) (W : World) : (Instr.field 103 (.agg #[a, b, c, d]) 2).run Tryz.prog W = .ok c W := by kernel_rfl
theorem fld_t (a b c d : Value) (W : World) : (Instr.field 103 (.agg #[a, b, c, d]) 3).run Tryz.prog W = .ok d W := by kernel_rfl
def PtSays (W w : World) (g : Nat) (o : Bool) (r : Except T Ps) (e : Ending) (w' : World) : Prop := Chp w w' ∧ match r with
 | .ok s' => e = .returned (.bool true) ∧ Pb W w' g o s'
 | .error m => e = .returned (.bool false) ∧ ∃ s', s'.l = m ∧ Pb W w' g false s'
def Contract (W : World) (g : Nat) (o o' : Bool) (f : Nat) (F : Pf) : Prop := ∀ w s, Pb W w g o s → Jj s → Calls Tryz.prog f #[pp g] w (PtSays W w g o' (F s))
theorem number_ (h : Pb W w g o s) (i : Nat) (f : Tok → Ps → Ps) (hf : ∀ y s x, (pcells s x).set i (.int .i64 y.t.n) = pcells (f y s) x) (hi : i < 17)
  (hk : ∀ y s, (f y s).l = s.l ∧ (f y s).step.send = s.step.send ∧ (f y s).arm.pat = s.arm.pat ∧ (f y s).step.arms = s.step.arms ∧ (f y s).steps = s.steps) :
  Calls Tryz.prog 124 #[pp g, .pointer (some ⟨g, i, none⟩)] w (PtSays W w g o (fWant (kd 2) f s)) := by
 obtain ⟨K, x, h⟩ := h
 have con := isNext_ h 2
 cases hc : kd 2 s.l with
 | false =>
  rw [hc] at con
  have HEND := Lib.hid (show PtSays W w g o (fWant (kd 2) f s) (.returned (.bool false)) w from by rw [fWant_miss hc rfl]; exact ⟨Chp.refl _, rfl, s, rfl, Pb.weak ⟨K, x, h⟩⟩)
  clear h hc
  go_enter Tryz.func124, Tryz.ntmps124
  go_wp2_with fail
  refine con.mono ?_
  clear con
  rintro e w1 ⟨rfl, rfl⟩
  go_wp2_with fail
  go_ret
  exact HEND.out
 | true =>
  rw [hc] at con
  obtain ⟨y, m, hl⟩ : ∃ y m, s.l = y :: m := by
   cases hl : s.l with
   | nil => rw [hl] at hc; cases hc
   | cons y m => exact ⟨y, m, rfl⟩
  have cont := take_ h y m hl
  have HY := Lib.hid (show ∀ x' w', Pw W w' g K o (took s y m) x' → Chp w w' → PtSays W w g o (fWant (kd 2) f s) (.returned (.bool true)) (w'.setCell ⟨g, i, none⟩ (.int .i64 y.t.n)) from fun x' w' hp hs => by
   rw [fWant_hit hl (by rw [← hl]; exact hc)]
   obtain ⟨q1, q2, q3, q4, q5⟩ := hk y (took s y m)
   exact ⟨hs.trans (Chp.frm hp.cel ((Frm.refl [g] w').set (p := ⟨g, i, none⟩) (by simp) _)), rfl, K, x', hp.put (hf y _ x') (by rw [q1]; exact hp.rest) (by rw [q2]; exact hp.send) (by rw [q3]; exact hp.pat) ⟨q4, rfl, rfl, rfl⟩ ⟨q5, rfl, rfl, rfl⟩⟩)
  clear h hc hl hf hk
  go_enter Tryz.func124, Tryz.ntmps124
  go_wp2_with fail
  refine con.mono ?_
  clear con
  rintro e w1 ⟨rfl, rfl⟩
  go_wp2_with fail
  refine cont.mono ?_
  clear cont
  rintro e w2 ⟨v, rs, hx, hv, ht, htx, rfl, hp, hs⟩
  have f0 := hp.f i
  obtain ⟨u0, k0⟩ : ∃ u0, w2.cell? ⟨g, i, none⟩ = some u0 := ⟨_, (hp.c i).trans (List.getElem?_eq_getElem (by exact hi))⟩
  have HT := Lib.hid (HY.out _ _ hp hs)
  subst hv
  clear hp hx ht htx
  have hfd := fld_n (.int .i64 v.t.t.kind) (.int .i64 (v.t.at_ : Int)) (.int .i64 v.t.t.n) (.slice v.A v.t.t.text.length v.c)
  go_wp2_with fail
  go_ret
  exact HT.out
theorem word_ (h : Pb W w g o s) (i : Nat) (f : Tok → Ps → Ps) (hf : ∀ y s x, (pcells s x).set i (.string (str y.t.text)) = pcells (f y s) x) (hi : i < 17)
  (hk : ∀ y s, (f y s).l = s.l ∧ (f y s).step.send = s.step.send ∧ (f y s).arm.pat = s.arm.pat ∧ (f y s).step.arms = s.step.arms ∧ (f y s).steps = s.steps) :
  Calls Tryz.prog 125 #[pp g, .pointer (some ⟨g, i, none⟩)] w (PtSays W w g o (fWant (kd 1) f s)) := by
 obtain ⟨K, x, h⟩ := h
 have con := isNext_ h 1
 cases hc : kd 1 s.l with
 | false =>
  rw [hc] at con
  have HEND := Lib.hid (show PtSays W w g o (fWant (kd 1) f s) (.returned (.bool false)) w from by rw [fWant_miss hc rfl]; exact ⟨Chp.refl _, rfl, s, rfl, Pb.weak ⟨K, x, h⟩⟩)
  clear h hc
  go_enter Tryz.func125, Tryz.ntmps125
  go_wp2_with fail
  refine con.mono ?_
  clear con
  rintro e w1 ⟨rfl, rfl⟩
  go_wp2_with fail
  go_ret
  exact HEND.out
 | true =>
  rw [hc] at con
  obtain ⟨y, m, hl⟩ : ∃ y m, s.l = y :: m := by
   cases hl : s.l with
   | nil => rw [hl] at hc; cases hc
   | cons y m => exact ⟨y, m, rfl⟩
  have cont := take_ h y m hl
  have HY := Lib.hid (show ∀ x' w', Pw W w' g K o (took s y m) x' → Chp w w' → PtSays W w g o (fWant (kd 1) f s) (.returned (.bool true)) (w'.setCell ⟨g, i, none⟩ (.string (str y.t.text))) from fun x' w' hp hs => by
   rw [fWant_hit hl (by rw [← hl]; exact hc)]
   obtain ⟨q1, q2, q3, q4, q5⟩ := hk y (took s y m)
   exact ⟨hs.trans (Chp.frm hp.cel ((Frm.refl [g] w').set (p := ⟨g, i, none⟩) (by simp) _)), rfl, K, x', hp.put (hf y _ x') (by rw [q1]; exact hp.rest) (by rw [q2]; exact hp.send) (by rw [q3]; exact hp.pat) ⟨q4, rfl, rfl, rfl⟩ ⟨q5, rfl, rfl, rfl⟩⟩)
  clear h hc hl hf hk
  go_enter Tryz.func125, Tryz.ntmps125
  go_wp2_with fail
  refine con.mono ?_
  clear con
  rintro e w1 ⟨rfl, rfl⟩
  go_wp2_with fail
  refine cont.mono ?_
  clear cont
  rintro e w2 ⟨v, rs, hx, hv, ht, htx, rfl, hp, hs⟩
  have f0 := hp.f i
  obtain ⟨u0, k0⟩ : ∃ u0, w2.cell? ⟨g, i, none⟩ = some u0 := ⟨_, (hp.c i).trans (List.getElem?_eq_getElem (by exact hi))⟩
  have HT := Lib.hid (HY.out _ _ hp hs)
  subst hv
  have s1 : (convert 41 9 (.slice v.A v.t.t.text.length v.c)).run Tryz.prog w2 = .ok (.string (str v.t.t.text)) w2 := (Bs.bp ((htx.1.below (Nat.zero_le _) hp.bel).bs (Nat.zero_le _))).string v.c Tryz.underlying41 Tryz.underlying5 Tryz.underlying9
  clear hp hx ht htx
  have hfd := fld_t (.int .i64 v.t.t.kind) (.int .i64 (v.t.at_ : Int)) (.int .i64 v.t.t.n) (.slice v.A v.t.t.text.length v.c)
  go_wp2_with fail
  go_ret
  exact HT.out
theorem text_ (h : Pb W w g o s) (i : Nat) (f : Tok → Ps → Ps) (gx : Option Addr → Nat → Px → Px) (hf : ∀ y s x A c, (pcells s x).set i (.slice A y.t.text.length c) = pcells (f y s) (gx A c x)) (hi : i < 17)
  (hk : ∀ y s, (f y s).l = s.l ∧ (f y s).step.arms = s.step.arms ∧ (f y s).steps = s.steps) (hg : ∀ A c x, (gx A c x).A0 = x.A0 ∧ (gx A c x).c0 = x.c0 ∧ (gx A c x).rs = x.rs ∧ ((gx A c x).A9 = x.A9 ∧ (gx A c x).c9 = x.c9 ∧ (gx A c x).avs = x.avs) ∧ (gx A c x).A3 = x.A3 ∧ (gx A c x).c3 = x.c3 ∧ (gx A c x).bvs = x.bvs)
  (ht : ∀ y s A c x, Tc W 0 A c y.t.text → Tc W 0 x.A8 x.c8 s.step.send → Tx W 0 x.A14 s.arm.pat → Tc W 0 (gx A c x).A8 (gx A c x).c8 (f y s).step.send ∧ Tx W 0 (gx A c x).A14 (f y s).arm.pat) :
  Calls Tryz.prog 150 #[pp g, .pointer (some ⟨g, i, none⟩)] w (PtSays W w g o (fWant (kd 3) f s)) := by
 obtain ⟨K, x, h⟩ := h
 have con := isNext_ h 3
 cases hc : kd 3 s.l with
 | false =>
  rw [hc] at con
  have HEND := Lib.hid (show PtSays W w g o (fWant (kd 3) f s) (.returned (.bool false)) w from by rw [fWant_miss hc rfl]; exact ⟨Chp.refl _, rfl, s, rfl, Pb.weak ⟨K, x, h⟩⟩)
  clear h hc
  go_enter Tryz.func150, Tryz.ntmps150
  go_wp2_with fail
  refine con.mono ?_
  clear con
  rintro e w1 ⟨rfl, rfl⟩
  go_wp2_with fail
  go_ret
  exact HEND.out
 | true =>
  rw [hc] at con
  obtain ⟨y, m, hl⟩ : ∃ y m, s.l = y :: m := by
   cases hl : s.l with
   | nil => rw [hl] at hc; cases hc
   | cons y m => exact ⟨y, m, rfl⟩
  have cont := take_ h y m hl
  have HY := Lib.hid (show ∀ x' w' A c, Tc W 0 A c y.t.text → Pw W w' g K o (took s y m) x' → Chp w w' → PtSays W w g o (fWant (kd 3) f s) (.returned (.bool true)) (w'.setCell ⟨g, i, none⟩ (.slice A y.t.text.length c)) from fun x' w' A c hA hp hs => by
   rw [fWant_hit hl (by rw [← hl]; exact hc)]
   obtain ⟨q1, q4, q5⟩ := hk y (took s y m)
   obtain ⟨g1, g2, g3, g4, g5⟩ := hg A c x'
   obtain ⟨t1, t2⟩ := ht y (took s y m) A c x' hA hp.send hp.pat
   exact ⟨hs.trans (Chp.frm hp.cel ((Frm.refl [g] w').set (p := ⟨g, i, none⟩) (by simp) _)), rfl, K, gx A c x', hp.put (hf y _ x' A c) (by rw [q1]; exact ⟨by rw [g1, g3]; exact hp.rest.ptk, by rw [g3]; exact hp.rest.tok, by rw [g2, g3]; exact hp.rest.cap, by rw [g3]; exact hp.rest.caps⟩) t1 t2 ⟨q4, g4⟩ ⟨q5, g5⟩⟩)
  clear h hc hl hf hk hg ht
  go_enter Tryz.func150, Tryz.ntmps150
  go_wp2_with fail
  refine con.mono ?_
  clear con
  rintro e w1 ⟨rfl, rfl⟩
  go_wp2_with fail
  refine cont.mono ?_
  clear cont
  rintro e w2 ⟨v, rs, hx, hv, htk, htx, rfl, hp, hs⟩
  have f0 := hp.f i
  obtain ⟨u0, k0⟩ : ∃ u0, w2.cell? ⟨g, i, none⟩ = some u0 := ⟨_, (hp.c i).trans (List.getElem?_eq_getElem (by exact hi))⟩
  have HT := Lib.hid (HY.out _ _ v.A v.c (by rw [← hv]; exact htx) hp hs)
  subst hv
  clear hp hx htk htx
  have hfd := fld_t (.int .i64 v.t.t.kind) (.int .i64 (v.t.at_ : Int)) (.int .i64 v.t.t.n) (.slice v.A v.t.t.text.length v.c)
  go_wp2_with fail
  go_ret
  exact HT.out
end
end Go.Proofs.YteohlpmojfjjdaaGreat.Book
end
section
namespace Go.Proofs.YteohlpmojfjjdaaGreat.Book
open Go.RowKit
open Lex (Tok Tk B cut Tv Tx tflat Cr cr_ry Ptk)
abbrev mv (k g : Nat) : Value := .func (.func k) #[.pointer (some ⟨g, 0, none⟩)] #[]
def Enters (k : Nat) : Prop := ∀ args W, (callFunc k args).run Tryz.prog W = .ok (.enter k args) W
theorem PtSays.bool {W w w' : World} {g : Nat} {o : Bool} {r : Except T Ps} {e : Ending} (h : PtSays W w g o r e w') : ∃ b, e = .returned (.bool b) ∧ ((∃ s', r = .ok s' ∧ b = true ∧ Pb W w' g o s') ∨ ∃ m s', r = .error m ∧ b = false ∧ s'.l = m ∧ Pb W w' g false s') := by
 unfold PtSays at h
 cases r with
 | error m => obtain ⟨_, rfl, s', h1, h2⟩ := h; exact ⟨false, rfl, .inr ⟨m, s', rfl, rfl, h1, h2⟩⟩
 | ok s' => obtain ⟨_, rfl, h2⟩ := h; exact ⟨true, rfl, .inl ⟨s', rfl, rfl, h2⟩⟩
theorem PtSays.of {W w0 w w' : World} {g : Nat} {o : Bool} {r : Except T Ps} {e : Ending} (h : PtSays W w g o r e w') (hc : Chp w0 w) : PtSays W w0 g o r e w' := ⟨hc.trans h.1, h.2⟩
theorem Jj.takeS {s : Ps} (h : Jj s) : Jj (takeS s) := by
 cases hl : s.l with
 | nil => unfold Book.takeS; rw [hl]; exact h
 | cons x m =>
  obtain ⟨t1, t2, t3⟩ := takeS_cn hl
  exact ⟨by rw [t2]; have := h.1; omega, by rw [t3]; have := h.2; omega⟩
section
variable {W w : World} {g : Nat} {o : Bool} {s : Ps}
theorem maybe_ {k : Nat} {F : Pf} (hE : Enters k) (hk : Contract W g o o k F) (h : Pb W w g o s) (hj : Jj s) (wo : List (BitVec 8)) (sw : ByteArray) (hsw : sw = str wo) :
  Calls Tryz.prog 87 #[pp g, .string sw, mv k g] w (PtSays W w g o (fMay wo F s)) := by
 obtain ⟨K, x, h⟩ := h
 have con := hasWord_ h wo sw hsw
 obtain ⟨b, hb⟩ : ∃ b, b = wd wo s.l := ⟨_, rfl⟩
 unfold HwSays at con
 rw [← hb] at con
 have hE' := hE
 unfold Enters at hE'
 cases b with
 | false =>
  have HEND := Lib.hid (show ∀ w' x', Chp w w' → Pw W w' g K o s x' → PtSays W w g o (fMay wo F s) (.returned (.bool true)) w' from fun w' x' hc hp => by rw [fMay_miss hb.symm]; exact ⟨hc, rfl, K, x', hp⟩)
  clear h hb hk hj hsw hE
  go_enter Tryz.func87, Tryz.ntmps87
  go_wp2_with fail
  refine con.mono ?_
  clear con
  rintro e w1 ⟨rfl, hc, x', hp⟩
  have HT := Lib.hid (HEND.out w1 x' hc hp)
  clear hc hp
  go_wp2_with fail
  go_ret
  exact HT.out
 | true =>
  have HEND := Lib.hid (show ∀ w', Chp w w' → Pb W w' g o (takeS s) → Calls Tryz.prog k #[pp g] w' (PtSays W w g o (fMay wo F s)) from fun w' hc hp => by
   rw [fMay_hit hb.symm]
   exact (hk w' _ hp hj.takeS).mono fun e w2 h2 => h2.of hc)
  clear h hb hk hj hsw hE
  go_enter Tryz.func87, Tryz.ntmps87
  go_wp2_with fail
  refine con.mono ?_
  clear con
  rintro e w1 ⟨rfl, hc, x', hp⟩
  have con2 := HEND.out w1 hc ⟨K, x', hp⟩
  clear hc hp
  go_wp2_with fail
  refine con2.mono ?_
  clear con2
  rintro e w2 h2
  have HT := Lib.hid h2
  obtain ⟨b, rfl, _⟩ := h2.bool
  clear h2
  go_wp2_with fail
  go_ret
  exact HT.out
structure Pts (W : World) (g : Nat) (fl : Nat → Bool) (ps : List (Nat × Pf)) : Prop where
 con : ∀ i q, ps[i]? = some q → Contract W g (fl i) (fl (i + 1)) q.1 q.2
 ent : ∀ q ∈ ps, Enters q.1
 cn : ∀ i q, ps[i]? = some q → i + 1 < ps.length → Cn 0 q.2
theorem inOrder_ {ps : List (Nat × Pf)} {fl : Nat → Bool} (hps : Pts W g fl ps) (h : Pb W w g (fl 0) s) (hj : Jj s) {pb n c : Nat} (hc : Cel w pb 142 (ps.map fun q => mv q.1 g)) (hn : n = ps.length) (hn2 : n ≤ 100) :
  Calls Tryz.prog 36 #[.slice (some ⟨pb, 0, none⟩) n c] w (PtSays W w g (fl n) (fAll (ps.map (·.2)) s)) := by
 have HP := Lib.hid hps
 have HC := Lib.hid hc
 have HB := Lib.hid h
 have HJ := Lib.hid hj
 have HN := Lib.hid hn
 clear hps hc h hj hn
 go_enter Tryz.func36, Tryz.ntmps36
 go_wp2_with fail
 go_loopw [7] (fun v7 wr => ∃ (i : Nat) (s' : Ps), i ≤ n ∧ v7 = .int .i64 (i : Int) ∧ Pb W wr g (fl i) s' ∧ Chp w wr ∧ (i < n → Jj s') ∧ Hid (fAll (ps.map (·.2)) s = fAll ((ps.drop i).map (·.2)) s')) (fun v7 _ => n - (intOf v7).toNat)
 case atStart => exact ⟨0, s, Nat.zero_le _, rfl, HB.out, Chp.refl _, fun _ => HJ.out, Lib.hid (by rw [List.drop_zero])⟩
 case round =>
  obtain ⟨i, s', hi, rfl, hp, hch, hj, HK⟩ := hrel
  obtain ⟨W0, rfl⟩ : ∃ W0, W0 = wr := ⟨_, rfl⟩
  have HCH := Lib.hid hch
  have HPB := Lib.hid hp
  have HJ2 := Lib.hid hj
  clear hch hp hj
  rcases Nat.lt_or_ge i n with hlt | hge
  ·obtain ⟨q, hq⟩ : ∃ q, ps[i]? = some q := ⟨_, List.getElem?_eq_getElem (by rw [← HN.out]; exact hlt)⟩
   have hm := List.mem_of_getElem? hq
   have con := HP.out.con i q hq W0 s' HPB.out (HJ2.out hlt)
   have hE := HP.out.ent q hm
   have k0 : W0.cell? ⟨pb, i, none⟩ = some (mv q.1 g) := by
    rw [Cel.cell (Cel.chp HC.out HCH.out (by decide)) i, List.getElem?_map, hq]
    rfl
   have hd : ps.drop i = q :: ps.drop (i + 1) := by
    obtain ⟨h1, h2⟩ := List.getElem?_eq_some_iff.1 hq
    rw [List.drop_eq_getElem_cons h1, h2]
   have HK1 := Lib.hid (show fAll (ps.map (·.2)) s = fThen q.2 (fAll ((ps.drop (i + 1)).map (·.2))) s' by rw [HK.out, hd]; rfl)
   have HCN := Lib.hid (show ∀ s2, q.2 s' = .ok s2 → i + 1 < n → Jj s2 from fun s2 h2 h3 => (HJ2.out hlt).go (HP.out.cn i q hq (by rw [← HN.out]; exact h3)) h2)
   unfold Enters at hE
   clear hq hm hd
   obtain ⟨kf, F⟩ := q
   dsimp only at *
   go_wp2_with fail
   refine con.mono ?_
   clear con k0
   rintro e w2 h2
   have HC2 := Lib.hid (HCH.out.trans h2.1)
   obtain ⟨b, rfl, ⟨s2, hF, rfl, hp2⟩ | ⟨m, s2, hF, rfl, hl2, hp2⟩⟩ := h2.bool
   ·have HK2 := Lib.hid (show fAll (ps.map (·.2)) s = fAll ((ps.drop (i + 1)).map (·.2)) s2 by rw [HK1.out, fThen_ok hF])
    have HP2 := Lib.hid hp2
    have HJ3 := Lib.hid (HCN.out s2 hF)
    clear h2 hF hp2
    go_wp2_with fail
    exact ⟨⟨i + 1, s2, hlt, by rw [show ((i + 1 : Nat) : Int) = (i : Int) + 1 by omega], HP2.out, HC2.out, HJ3.out, HK2⟩, by simp [intOf]; omega⟩
   ·have HEND := Lib.hid (show PtSays W w g (fl n) (fAll (ps.map (·.2)) s) (.returned (.bool false)) w2 from ⟨HC2.out, by rw [HK1.out, fThen_bad hF]; exact ⟨rfl, s2, hl2, hp2⟩⟩)
    clear h2 hF hp2 hl2
    go_wp2_with fail
    go_ret
    exact HEND.out
  ·obtain rfl : i = n := by omega
   have HEND := Lib.hid (show PtSays W w g (fl i) (fAll (ps.map (·.2)) s) (.returned (.bool true)) W0 from ⟨HCH.out, by
    rw [HK.out, List.drop_eq_nil_of_le (by rw [← HN.out]; exact Nat.le_refl _)]
    exact ⟨rfl, HPB.out⟩⟩)
   go_wp2_with fail
   go_ret
   exact HEND.out
def lenOf : Value → Nat
 | .slice _ n _ => n
 | _ => 0
theorem many_ {pb n c : Nat} {ps : List (Nat × Pf)} {fl : Nat → Bool} (hps : Pts W g fl ps) (hcn : Cn 1 (fAll (ps.map (·.2)))) (h : Pb W w g (fl 0) s) (hfl : fl n = fl 0) (hj : Ii s) (hc : Cel w pb 142 (ps.map fun q => mv q.1 g)) (hn : n = ps.length) (hn2 : n ≤ 100) (wo : List (BitVec 8)) (sw : ByteArray) (hsw : sw = str wo) :
  Calls Tryz.prog 89 #[pp g, .string sw, .slice (some ⟨pb, 0, none⟩) n c] w (PtSays W w g (fl 0) (fMany wo (fAll (ps.map (·.2))) (s.l.length + 1) s)) := by
 have HP := Lib.hid hps
 have HC := Lib.hid hc
 have HB := Lib.hid h
 have HJ := Lib.hid hj
 have HN := Lib.hid hn
 have HSW := Lib.hid hsw
 have HCN := Lib.hid hcn
 clear hps hc h hj hn hsw hcn
 go_enter Tryz.func89, Tryz.ntmps89
 go_wp2_with fail
 go_loopw [] (fun wr => ∃ (f : Nat) (s' : Ps), s'.l.length < f ∧ Pb W wr g (fl 0) s' ∧ Chp w wr ∧ Ii s' ∧ Hid (fMany wo (fAll (ps.map (·.2))) (s.l.length + 1) s = fMany wo (fAll (ps.map (·.2))) f s')) (fun wr => lenOf ((wr.cell? ⟨g, 0, none⟩).getD undef))
 case atStart => exact ⟨_, s, Nat.lt_succ_self _, HB.out, Chp.refl _, HJ.out, Lib.hid rfl⟩
 case round =>
  obtain ⟨f, s', hf, hp, hch, hj, HK⟩ := hrel
  obtain ⟨W0, rfl⟩ : ∃ W0, W0 = wr := ⟨_, rfl⟩
  have HCH := Lib.hid hch
  have HPB := Lib.hid hp
  have HJ2 := Lib.hid hj
  have hlen : ∀ (V : World) (z : Ps), Pb W V g (fl 0) z → lenOf ((V.cell? ⟨g, 0, none⟩).getD undef) = z.l.length := fun V z hz => by
   obtain ⟨K, x, hz⟩ := hz
   rw [hz.c 0]
   rfl
  have HLEN := Lib.hid hlen
  obtain ⟨K, x, hw⟩ := hp
  have con := hasWord_ hw wo sw HSW.out
  clear hch hj hlen hw
  obtain ⟨b, hb⟩ : ∃ b, b = wd wo s'.l := ⟨_, rfl⟩
  unfold HwSays at con
  rw [← hb] at con
  cases b with
  | false =>
   have HK1 := Lib.hid (show fMany wo (fAll (ps.map (·.2))) (s.l.length + 1) s = .ok s' by rw [HK.out, fMany_end hb.symm])
   clear hb
   go_wp2_with fail
   refine con.mono ?_
   clear con
   rintro e w2 ⟨rfl, hc2, x2, hp2⟩
   have HEND := Lib.hid (show PtSays W w g (fl 0) (fMany wo (fAll (ps.map (·.2))) (s.l.length + 1) s) (.returned (.bool true)) w2 from ⟨HCH.out.trans hc2, by rw [HK1.out]; exact ⟨rfl, K, x2, hp2⟩⟩)
   clear hc2 hp2
   go_wp2_with fail
   go_ret
   exact HEND.out
  | true =>
   obtain ⟨f, rfl⟩ : ∃ f', f = f' + 1 := ⟨f - 1, by omega⟩
   have HK1 := Lib.hid (show fMany wo (fAll (ps.map (·.2))) (s.l.length + 1) s = fThen (fAll (ps.map (·.2))) (fMany wo (fAll (ps.map (·.2))) f) (takeS s') by rw [HK.out, fMany_go hb.symm])
   have hj2 := HJ2.out.take hb.symm
   have ht : (takeS s').l.length + 1 = s'.l.length := by
    obtain ⟨y, m, e⟩ := wd_cons hb.symm
    exact (takeS_cn e).1
   have HJT := Lib.hid hj2
   have HT := Lib.hid ht
   have HF := Lib.hid hf
   clear hb hj2 ht hf
   go_wp2_with fail
   refine con.mono ?_
   clear con
   rintro e w2 ⟨rfl, hc2, x2, hp2⟩
   have con2 := inOrder_ (s := takeS s') (n := n) (c := c) HP.out ⟨K, x2, hp2⟩ HJT.out (Cel.chp HC.out (HCH.out.trans hc2) (by decide)) HN.out hn2
   rw [hfl] at con2
   have HC2 := Lib.hid (HCH.out.trans hc2)
   clear hc2 hp2
   go_wp2_with fail
   refine con2.mono ?_
   clear con2
   rintro e w3 h3
   have HC3 := Lib.hid (HC2.out.trans h3.1)
   obtain ⟨b, rfl, ⟨s2, hF, rfl, hp3⟩ | ⟨m, s2, hF, rfl, hl3, hp3⟩⟩ := h3.bool
   ·have HK2 := Lib.hid (show fMany wo (fAll (ps.map (·.2))) (s.l.length + 1) s = fMany wo (fAll (ps.map (·.2))) f s2 by rw [HK1.out, fThen_ok hF])
    have hcnt := HCN.out _ _ hF
    have HP3 := Lib.hid hp3
    have hI : Ii s2 := ⟨by have := hcnt.2.1; have := HJT.out.1; omega, by have := hcnt.2.2; have := HJT.out.2; omega⟩
    have hL : s2.l.length < s'.l.length := by have := hcnt.1; have := HT.out; omega
    have HI := Lib.hid hI
    have HL := Lib.hid hL
    clear h3 hF hp3 hcnt hI hL
    go_wp2_with fail
    exact ⟨⟨f, s2, by have := HL.out; have := HF.out; omega, HP3.out, HC3.out, HI.out, HK2⟩, by rw [HLEN.out _ _ HP3.out, HLEN.out _ _ HPB.out]; exact HL.out⟩
   ·have HEND := Lib.hid (show PtSays W w g (fl 0) (fMany wo (fAll (ps.map (·.2))) (s.l.length + 1) s) (.returned (.bool false)) w3 from ⟨HC3.out, by rw [HK1.out, fThen_bad hF]; exact ⟨rfl, s2, hl3, hp3⟩⟩)
    clear h3 hF hp3 hl3
    go_wp2_with fail
    go_ret
    exact HEND.out
end
end Go.Proofs.YteohlpmojfjjdaaGreat.Book
end
