/-
  The law DiskKeeps walked.
-/
import Derived.Test.YtkoaelpmknaakaaDiskDeeds
namespace Go.Proofs.Ytkoaelpmknaakaa.Disk
open Go.RowKit Go.Maps
set_option linter.unusedVariables false
set_option linter.unusedSimpArgs false

def kA (us : List (BitVec 8)) : List Cl := us.map fun x => ⟨3, fullL x, true⟩
def kB (bs : List (BitVec 8)) : List Cl := bs.map fun x => ⟨3, fullL x, false⟩
def fl (n : Nat) : List Int := if n = 0 then [] else [3]
def mK (us bs : List (BitVec 8)) : M := ⟨200, fl (us.length + bs.length), kA us ++ kB bs, false, none⟩
theorem add_fl (n : Nat) : add 3 (fl n) = [3] := by
  unfold fl; split <;> simp [add, without, ins]
theorem rows_kA (us : List (BitVec 8)) : rows 3 (kA us) = us.map fun x => ⟨fullL x, true⟩ := by
  induction us with
  | nil => rfl
  | cons a us ih => unfold kA at *; rw [List.map_cons, rows_cons, if_pos rfl, ih]; rfl
theorem rows_kB (bs : List (BitVec 8)) : rows 3 (kB bs) = bs.map fun x => ⟨fullL x, false⟩ := by
  induction bs with
  | nil => rfl
  | cons a us ih => unfold kB at *; rw [List.map_cons, rows_cons, if_pos rfl, ih]; rfl
theorem rows_k (us bs : List (BitVec 8)) : rows 3 (kA us ++ kB bs) = (us.map fun x => (⟨fullL x, true⟩ : Sc)) ++ bs.map fun x => ⟨fullL x, false⟩ := by rw [rows_app, rows_kA, rows_kB]
theorem keep1 {us bs : List (BitVec 8)} (x : BitVec 8) (h : us.length + bs.length < 200) : append (mK us bs) 3 (fullL x) = (0, ⟨200, [3], kA us ++ kB bs ++ [⟨3, fullL x, false⟩], false, none⟩) := by
  have h1 : ¬ (mK us bs).off = true := by simp [mK]
  have h2 : ¬ ((3 : Int) < 0 ∨ (fullL x).length ≠ 512) := by simp [fullL_len]
  have h3 : ¬ ((mK us bs).room ≤ (mK us bs).l.length ∨ 200 ≤ (rows 3 (mK us bs).l).length) := by
    unfold mK
    dsimp only
    rw [rows_k]
    simp [kA, kB]; omega
  unfold append
  rw [if_neg h1, if_neg h2, if_neg h3]
  have h4 : fails (mK us bs) = false := rfl
  rw [h4]
  simp only [Bool.false_eq_true, if_false]
  show (_, (⟨200, add 3 (fl _), _, false, none⟩ : M)) = _
  rw [add_fl]
  rfl
theorem keep2 (us : List (BitVec 8)) (x : BitVec 8) : sync ⟨200, [3], kA us ++ kB [] ++ [⟨3, fullL x, false⟩], false, none⟩ 3 = (0, mK (us ++ [x]) []) := by
  have e : syncL 3 (kA us ++ kB [] ++ [⟨3, fullL x, false⟩]) = kA (us ++ [x]) ++ kB [] := by
    have h1 : syncL 3 (kA us) = kA us := by
      unfold syncL kA
      rw [List.map_map]
      rfl
    unfold syncL at h1 ⊢
    rw [List.map_append, List.map_append, h1]
    simp [kA, kB]
  unfold sync
  simp only [there, fails, stepped, List.mem_singleton, if_true, Bool.false_eq_true, if_false, ne_eq, not_true]
  rw [e]
  unfold mK fl
  simp
theorem keep3 {us bs : List (BitVec 8)} (y : BitVec 8) : (⟨200, [3], kA us ++ kB bs ++ [⟨3, fullL y, false⟩], false, none⟩ : M) = mK us (bs ++ [y]) := by
  unfold mK fl
  simp [kB]
theorem rowZ_synced_all (keep : List Bool) (n : Nat) : ∀ us : List (BitVec 8), rowZ keep n (us.map fun x => (⟨fullL x, true⟩ : Sc)) = (us.map fun x => ⟨fullL x, true⟩) ∧ uns (us.map fun x => (⟨fullL x, true⟩ : Sc)) = 0
  | [] => ⟨rfl, rfl⟩
  | a :: us => by
    obtain ⟨h1, h2⟩ := rowZ_synced_all keep n us
    rw [List.map_cons, rowZ_cons, if_pos rfl, h1, uns_cons, h2]
    exact ⟨rfl, rfl⟩
theorem rowZ_uns (keep : List Bool) (bs : List (BitVec 8)) : ∀ (n j : Nat) (y : BitVec 8), bs[j]? = some y → (rowZ keep n (bs.map fun x => (⟨fullL x, false⟩ : Sc)))[j]? = some ⟨if keep.getD (n + j) false then fullL y else zeros, false⟩ := by
  induction bs with
  | nil => intro n j y h; simp at h
  | cons b bs ih =>
    intro n j y h
    rw [List.map_cons, rowZ_cons, if_neg (by simp)]
    cases j with
    | zero => simp at h; subst h; simp
    | succ j =>
      rw [List.getElem?_cons_succ, ih (n + 1) j y (by simpa using h)]
      rw [show n + 1 + j = n + (j + 1) by omega]
/-- The byte that sector i is full of. -/
def want (us bs : List (BitVec 8)) (keep : List Bool) (i : Nat) : BitVec 8 :=
  if i < us.length then us.getD i 0#8 else if keep.getD (i - us.length) false then bs.getD (i - us.length) 0#8 else 0#8
/-- The disk behind the failure, with the power on again. -/
def mZ (us bs : List (BitVec 8)) (keep : List Bool) : M := up (crash (mK us bs) keep)
theorem mZ_rows (us bs : List (BitVec 8)) (keep : List Bool) (h : 0 < us.length + bs.length) : ((rows 3 (mZ us bs keep).l).map Sc.b).length = us.length + bs.length ∧ ∀ i, i < us.length + bs.length → ((rows 3 (mZ us bs keep).l).map Sc.b)[i]? = some (fullL (want us bs keep i)) := by
  have e : rows 3 (mZ us bs keep).l = (rowZ keep 0 (rows 3 (kA us ++ kB bs))).map Sc.syn := by
    have e1 : (mZ us bs keep).l = (passes keep (fl (us.length + bs.length)) (kA us ++ kB bs)).2 := rfl
    have e2 : fl (us.length + bs.length) = [3] := by unfold fl; rw [if_neg (by omega)]
    rw [e1, e2]
    exact rows_pass_same keep 3 0 _
  obtain ⟨h1, h2⟩ := rowZ_synced_all keep 0 us
  rw [e, rows_k, rowZ_app, h1, h2, List.map_map]
  refine ⟨by rw [List.length_map, List.length_append, rowZ_len, List.length_map, List.length_map], fun i hi => ?_⟩
  rw [List.getElem?_map]
  by_cases hia : i < us.length
  · rw [List.getElem?_append_left (by rw [List.length_map]; exact hia), List.getElem?_map, List.getElem?_eq_getElem hia]
    unfold want
    rw [if_pos hia, List.getD_eq_getElem?_getD, List.getElem?_eq_getElem hia]
    rfl
  · have hj : i - us.length < bs.length := by omega
    rw [List.getElem?_append_right (by rw [List.length_map]; omega), List.length_map, rowZ_uns keep bs _ _ _ (List.getElem?_eq_getElem hj)]
    unfold want
    rw [if_neg hia, Nat.zero_add]
    simp only [Option.map_some, Function.comp, Sc.syn]
    split
    · rw [List.getD_eq_getElem?_getD, List.getElem?_eq_getElem hj]; rfl
    · rw [zeros_full]
theorem mZ_there (us bs : List (BitVec 8)) (keep : List Bool) : there (mZ us bs keep) 3 = if us.length + bs.length = 0 then 4 else 0 := by
  have e : (mZ us bs keep).files = fl (us.length + bs.length) := rfl
  have this : (mZ us bs keep).off = false := rfl
  unfold there
  rw [e, this, if_neg (by simp)]
  unfold fl
  by_cases h : us.length + bs.length = 0
  · rw [if_pos h, if_pos h]; rfl
  · rw [if_neg h, if_neg h]; rfl

set_option maxRecDepth 100000 in
set_option maxHeartbeats 8000000 in
theorem keeps_walk (aA bA kA' : Option Addr) (na ac nb bc nk kc : Nat) (us bs : List (BitVec 8)) (ks : List Bool) (w : World) (ha : Bs w w.heap.size aA na us) (hb : Bs w w.heap.size bA nb bs) (hk : Bo w w.heap.size (.slice kA' nk kc) ks) (hkl : ks.length = nk)
    (hna : na ≤ maxLen) (hnb : nb ≤ maxLen) (hnk : nk ≤ maxLen) :
    Calls Try.prog 4 #[.slice aA na ac, .slice bA nb bc, .slice kA' nk kc] w fun e w' => e = .returned (.bool true) ∧ Below w.heap.size w w' := by
  have HA := Lib.hid ha
  have HB := Lib.hid hb
  have HK := Lib.hid hk
  have HKL := Lib.hid hkl
  have hla := ha.len
  have hlb := hb.len
  have HLA := Lib.hid hla
  have HLB := Lib.hid hlb
  have HNK := Lib.hid hnk
  unfold maxLen at hna hnb hnk
  clear ha hb hk hkl hla hlb
  by_cases hbig : 60 < na ∨ 60 < nb ∨ 100 < nk
  · have hknow := knows_ok w
    by_cases h1 : 60 < na
    · clear hbig
      go_enter Try.func4, Try.ntmps4
      go_wp2_with fail
      refine hknow.mono ?_
      rintro e w3 ⟨rfl, hb⟩
      go_wp2_with fail
      go_ret
      exact ⟨rfl, hb⟩
    · by_cases h2 : 60 < nb
      · clear hbig
        go_enter Try.func4, Try.ntmps4
        go_wp2_with fail
        refine hknow.mono ?_
        rintro e w3 ⟨rfl, hb⟩
        go_wp2_with fail
        go_ret
        exact ⟨rfl, hb⟩
      · have h3 : 100 < nk := by omega
        clear hbig
        go_enter Try.func4, Try.ntmps4
        go_wp2_with fail
        refine hknow.mono ?_
        rintro e w3 ⟨rfl, hb⟩
        go_wp2_with fail
        go_ret
        exact ⟨rfl, hb⟩
  have h1 : na ≤ 60 := by omega
  have h2 : nb ≤ 60 := by omega
  have h3 : nk ≤ 100 := by omega
  clear hbig hna hnb hnk
  go_enter Try.func4, Try.ntmps4
  go_wp2_with fail
  refine (new_ok w w.heap.size 200 (Nat.le_refl _) (by omega) (by omega)).mono ?_
  rintro e w1 ⟨d, rfl, hd1, hb1⟩
  have HD1 := Lib.hid hd1
  have HB1 := Lib.hid hb1
  clear hd1 hb1
  go_wp2_with fail
  go_loopw [9] (fun i wr => ∃ k : Nat, k ≤ na ∧ i = .int .i64 k ∧ Dk wr w.heap.size d (mK (us.take k) []) ∧ Below w.heap.size w wr) (fun i _ => na - (Go.RowKit.intOf i).toNat)
  case atStart => exact ⟨0, Nat.zero_le _, rfl, HD1.out, HB1.out⟩
  case round =>
    clear HD1 HB1
    obtain ⟨k, hk, rfl, hd, hbw⟩ := hrel
    by_cases hlt : k < na
    · obtain ⟨ad, hA, _, hcell⟩ := (HA.out.below hbw).at_ hlt
      subst hA
      have hx2 : us[k]? = some (us.getD k 0#8) := by rw [List.getD_eq_getElem?_getD, List.getElem?_eq_getElem (by rw [HLA.out]; exact hlt)]; rfl
      obtain ⟨x, hx⟩ : ∃ x, x = us.getD k 0#8 := ⟨_, rfl⟩
      rw [← hx] at hcell hx2
      have ht : us.take (k + 1) = us.take k ++ [x] := by
        obtain ⟨hj2, e⟩ := List.getElem?_eq_some_iff.1 hx2
        rw [List.take_succ_eq_append_getElem hj2, e]
      have hlen : (us.take k).length + ([] : List (BitVec 8)).length < 200 := by rw [List.length_take]; simp; omega
      have HT := Lib.hid ht
      have HLE := Lib.hid hlen
      have HD := Lib.hid hd
      have HBW := Lib.hid hbw
      clear hx hx2 ht hlen hd hbw
      go_wp2_with fail
      refine (full_ok wr x).mono ?_
      rintro e w3 ⟨rfl, hc3, hb3⟩
      have con := append_call w3 w.heap.size d _ 3 (some ⟨wr.heap.size, 0, none⟩) 512 512 (fullL x) (HD.out.below hb3) (Nat.le_trans HBW.out.size hb3.size) (by omega) (full_bn hc3) (fun ad e => by cases e; exact ⟨_, _, rfl⟩) (by unfold maxLen; omega)
      rw [keep1 x HLE.out] at con
      have HB3 := Lib.hid hb3
      clear hc3 hb3 hcell
      go_wp2_with fail
      refine con.mono ?_
      clear con
      rintro e w4 ⟨rfl, hd4, hc4⟩
      have con := sync_call w4 w.heap.size d _ 3 ⟨by omega, by omega⟩ hd4 (Nat.le_trans (Nat.le_trans HBW.out.size HB3.out.size) hc4.size)
      try dsimp only at con
      rw [keep2] at con
      have HC4 := Lib.hid hc4
      clear hd4 hc4
      go_wp2_with fail
      refine con.mono ?_
      clear con
      rintro e w5 ⟨rfl, hd5, hc5⟩
      have HD5 := Lib.hid hd5
      have HC5 := Lib.hid hc5
      clear hd5 hc5
      have hfin : Below w.heap.size w w5 := HBW.out.trans ((((Chg.of_below HB3.out).trans HC4.out).trans HC5.out).below HBW.out.size)
      have HFIN := Lib.hid hfin
      clear hfin
      go_wp2_with fail
      go_roundw
      case rel => exact ⟨k + 1, by omega, by go_num, by rw [HT.out]; exact HD5.out, HFIN.out⟩
      case measure => simp [Go.RowKit.intOf]; omega
    · obtain rfl : k = na := by omega
      have hd' : Dk wr w.heap.size d (mK us []) := by have := hd; rwa [List.take_of_length_le (by rw [HLA.out]; exact Nat.le_refl _)] at this
      have HD := Lib.hid hd'
      have HBW := Lib.hid hbw
      obtain ⟨wo, rfl⟩ : ∃ wo : World, wo = wr := ⟨_, rfl⟩
      clear hd hd' hbw hk
      go_wp2_with fail
      go_loopw [10] (fun i wr => ∃ j : Nat, j ≤ nb ∧ i = .int .i64 j ∧ Dk wr w.heap.size d (mK us (bs.take j)) ∧ Below w.heap.size w wr) (fun i _ => nb - (Go.RowKit.intOf i).toNat)
      case atStart => exact ⟨0, Nat.zero_le _, rfl, HD.out, HBW.out⟩
      case round =>
        clear HD HBW
        obtain ⟨j, hj, rfl, hd, hbw⟩ := hrel
        by_cases hlt : j < nb
        · obtain ⟨ad, hA, _, hcell⟩ := (HB.out.below hbw).at_ hlt
          subst hA
          have hx2 : bs[j]? = some (bs.getD j 0#8) := by rw [List.getD_eq_getElem?_getD, List.getElem?_eq_getElem (by rw [HLB.out]; exact hlt)]; rfl
          obtain ⟨x, hx⟩ : ∃ x, x = bs.getD j 0#8 := ⟨_, rfl⟩
          rw [← hx] at hcell hx2
          have ht : bs.take (j + 1) = bs.take j ++ [x] := by
            obtain ⟨hj2, e⟩ := List.getElem?_eq_some_iff.1 hx2
            rw [List.take_succ_eq_append_getElem hj2, e]
          have hlen : us.length + (bs.take j).length < 200 := by rw [List.length_take, HLA.out]; omega
          have HT := Lib.hid ht
          have HLE := Lib.hid hlen
          have HD := Lib.hid hd
          have HBW := Lib.hid hbw
          clear hx hx2 ht hlen hd hbw
          go_wp2_with fail
          refine (full_ok wr x).mono ?_
          rintro e w3 ⟨rfl, hc3, hb3⟩
          have con := append_call w3 w.heap.size d _ 3 (some ⟨wr.heap.size, 0, none⟩) 512 512 (fullL x) (HD.out.below hb3) (Nat.le_trans HBW.out.size hb3.size) (by omega) (full_bn hc3) (fun ad e => by cases e; exact ⟨_, _, rfl⟩) (by unfold maxLen; omega)
          rw [keep1 x HLE.out, keep3] at con
          have HB3 := Lib.hid hb3
          clear hc3 hb3 hcell
          go_wp2_with fail
          refine con.mono ?_
          clear con
          rintro e w4 ⟨rfl, hd4, hc4⟩
          have HD4 := Lib.hid hd4
          have HC4 := Lib.hid hc4
          clear hd4 hc4
          have hfin : Below w.heap.size w w4 := HBW.out.trans (((Chg.of_below HB3.out).trans HC4.out).below HBW.out.size)
          have HFIN := Lib.hid hfin
          clear hfin
          go_wp2_with fail
          go_roundw
          case rel => exact ⟨j + 1, by omega, by go_num, by rw [HT.out]; exact HD4.out, HFIN.out⟩
          case measure => simp [Go.RowKit.intOf]; omega
        · obtain rfl : j = nb := by omega
          have hd' : Dk wr w.heap.size d (mK us bs) := by have := hd; rwa [List.take_of_length_le (by rw [HLB.out]; exact Nat.le_refl _)] at this
          have con := crash_call wr w.heap.size d (mK us bs) (.slice kA' nk kc) ks hd' (HK.out.below hbw) hbw.size (by rw [HKL.out]; exact HNK.out)
          have HBW := Lib.hid hbw
          clear hd hd' hbw hj
          go_wp2_with fail
          refine con.mono ?_
          clear con
          rintro e w3 ⟨rfl, hd3, hc3⟩
          have con := up_call w3 w.heap.size d _ hd3
          have HC3 := Lib.hid hc3
          clear hd3 hc3
          go_wp2_with fail
          refine con.mono ?_
          clear con
          rintro e w4 ⟨rfl, hd4, hc4⟩
          have hd4' : Dk w4 w.heap.size d (mZ us bs ks) := hd4
          have hb4 : Below w.heap.size w w4 := HBW.out.trans ((HC3.out.trans hc4).below HBW.out.size)
          have HD4 := Lib.hid hd4'
          have HB4 := Lib.hid hb4
          have hth := mZ_there us bs ks
          rw [HLA.out, HLB.out] at hth
          clear hd4 hd4' hc4 hb4
          by_cases hz : k + j = 0
          · rw [if_pos hz] at hth
            have con := read_not w4 w.heap.size d (mZ us bs ks) 3 ⟨by omega, by omega⟩ HD4.out (by rw [hth]; omega)
            rw [hth] at con
            have z1 : k = 0 := by omega
            have z2 : j = 0 := by omega
            clear hth
            go_wp2_with fail
            refine con.mono ?_
            clear con
            rintro e w5 ⟨rfl, rfl⟩
            go_wp2_with fail
            refine (knows_ok w4).mono ?_
            rintro e w5 ⟨rfl, hb5⟩
            go_wp2_with fail
            go_ret
            exact ⟨rfl, HB4.out.trans (hb5.mono HB4.out.size)⟩
          · rw [if_neg hz] at hth
            have con := read_ok w4 w.heap.size d (mZ us bs ks) 3 ⟨by omega, by omega⟩ HD4.out hth
            clear hth
            obtain ⟨hml, hma⟩ := mZ_rows us bs ks (by rw [HLA.out, HLB.out]; omega)
            rw [HLA.out, HLB.out] at hml hma
            obtain ⟨X, hX⟩ : ∃ X, X = (rows 3 (mZ us bs ks).l).map Sc.b := ⟨_, rfl⟩
            rw [← hX] at con hml hma
            have HMA := Lib.hid hma
            have hsum : ((k : Int) + (j : Int) == 0) = false := by simp; omega
            clear hX hma
            go_wp2_with fail
            refine con.mono ?_
            clear con
            rintro e w5 ⟨v, rfl, hrs, hb5⟩
            obtain ⟨ws, hu1, hu2, hu3⟩ := hrs
            rw [hml] at hu1 hu2
            obtain ⟨gA, gc, hv⟩ := own_slice _ hu1
            subst hv
            have hb6 : Below w.heap.size w w5 := HB4.out.trans (hb5.mono HB4.out.size)
            have HU1 := Lib.hid hu1
            have HU3 := Lib.hid hu3
            have HB6 := Lib.hid hb6
            clear hu1 hu2 hu3 hb5 hb6 hml
            go_wp2_with fail
            go_loopw [13] (fun i wr => ∃ q : Nat, q ≤ k + j ∧ i = .int .i64 q ∧ Below w5.heap.size w5 wr) (fun i _ => k + j - (Go.RowKit.intOf i).toNat)
            case atStart => exact ⟨0, Nat.zero_le _, rfl, Below.refl _ _⟩
            case round =>
              obtain ⟨q, hq0, rfl, hbi⟩ := hrel
              have HBI := Lib.hid hbi
              have hbw : Below w.heap.size w wr := HB6.out.trans (hbi.mono HB6.out.size)
              by_cases hqt : q < k + j
              · have hxm := HMA.out q hqt
                obtain ⟨y, hy⟩ : ∃ y, y = want us bs ks q := ⟨_, rfl⟩
                rw [← hy] at hxm
                obtain ⟨Ax, cx, ex, hyx⟩ := HU3.out q _ hxm
                rw [fullL_len] at ex hyx
                obtain ⟨g, hg⟩ : ∃ g, gA = some ⟨g, 0, none⟩ := by
                  rcases HU1.out.2 with ⟨_, h⟩ | ⟨g, cap, cur, e, _⟩
                  · omega
                  · injection e with e1; exact ⟨g, e1⟩
                subst hg
                have p1 : w5.cell? ⟨g, q, none⟩ = some (.slice Ax 512 cx) := by
                  have := World.ownsRow.cells HU1.out (g := g) rfl q _ ex
                  rwa [Addr.add_lit, Nat.zero_add] at this
                have hbr5 : ∀ V, From wr V → Below w5.heap.size w5 V := fun V hV => HBI.out.trans (Below.mono hV HBI.out.size)
                have hu : ∀ V, From wr V → V.cell? ⟨g, q, none⟩ = some (.slice Ax 512 cx) := fun V hV => Below.kept (hbr5 V hV) p1
                have hq : ∀ V, From wr V → (convert 37 9 (.slice Ax 512 cx)).run Try.prog V = .ok (.string (str (fullL y))) V := fun V hV => toStr (hyx.below (hbr5 V hV)).rd cx
                clear ex hyx p1 hbr5 hxm hbi
                by_cases hqk : q < k
                · obtain ⟨ad, hA, _, hcell⟩ := (HA.out.below hbw).at_ hqk
                  subst hA
                  have hyv : y = us.getD q 0#8 := by rw [hy]; unfold want; rw [if_pos (by rw [HLA.out]; exact hqk)]
                  rw [← hyv] at hcell
                  clear hy hyv hbw
                  go_wp2_with fail
                  refine wp_region_held_drew (S := From wr) (by kernel_rfl) (From.self _).drew (fun hH => ?_)
                  refine wpAnyH_take (i := 0) (v := .slice (some ⟨g, 0, none⟩) (k + j) gc) rfl (by kernel_rfl) (by kernel_rfl) (by kernel_rfl) (fun _ _ _ h => h) (Or.inl ⟨by rfl, ?_⟩) hH ?_
                  · intro V hV; go_simp
                  try simp only [Act.put, List.setIfInBounds_toArray, List.set_cons_zero, List.set_cons_succ, List.getElem_toArray, List.getElem_cons_succ, List.getElem_cons_zero]
                  refine wpAnyH_take (i := 1) (v := .int .i64 ((q : Nat) : Int)) rfl (by kernel_rfl) (by kernel_rfl) (by kernel_rfl) (fun _ _ _ h => h) (Or.inl ⟨by rfl, ?_⟩) hH ?_
                  · intro V hV; go_simp
                  try simp only [Act.put, List.setIfInBounds_toArray, List.set_cons_zero, List.set_cons_succ, List.getElem_toArray, List.getElem_cons_succ, List.getElem_cons_zero]
                  refine wpAnyH_take (i := 2) (v := .pointer (some ⟨g, q, none⟩)) rfl (by kernel_rfl) (by kernel_rfl) (by kernel_rfl) (fun _ _ _ h => h) (Or.inl ⟨by rfl, ?_⟩) hH ?_
                  · intro V hV; go_simp
                  try simp only [Act.put, List.setIfInBounds_toArray, List.set_cons_zero, List.set_cons_succ, List.getElem_toArray, List.getElem_cons_succ, List.getElem_cons_zero]
                  refine wpAnyH_take (i := 3) (v := .slice Ax 512 cx) rfl (by kernel_rfl) (by kernel_rfl) (by kernel_rfl) (fun _ _ _ h => h) (Or.inl ⟨by rfl, ?_⟩) hH ?_
                  · intro V hV; have k := hu V hV; go_simp
                  try simp only [Act.put, List.setIfInBounds_toArray, List.set_cons_zero, List.set_cons_succ, List.getElem_toArray, List.getElem_cons_succ, List.getElem_cons_zero]
                  refine wpAnyH_take (i := 4) (v := .string (str (fullL y))) rfl (by kernel_rfl) (by kernel_rfl) (by kernel_rfl) (fun _ _ _ h => h) (Or.inl ⟨by rfl, ?_⟩) hH ?_
                  · intro V hV; have k := hq V hV; go_simp
                  try simp only [Act.put, List.setIfInBounds_toArray, List.set_cons_zero, List.set_cons_succ, List.getElem_toArray, List.getElem_cons_succ, List.getElem_cons_zero]
                  refine wpAnyH_take (i := 5) (v := .int .u8 (y.toNat : Int)) rfl (by kernel_rfl) (by kernel_rfl) (by kernel_rfl) (fun _ _ _ h => h) (Or.inl ⟨by rfl, ?_⟩) hH ?_
                  · intro V hV; go_simp
                  try simp only [Act.put, List.setIfInBounds_toArray, List.set_cons_zero, List.set_cons_succ, List.getElem_toArray, List.getElem_cons_succ, List.getElem_cons_zero]
                  refine wpAnyH_ready (rs := [6]) (by kernel_rfl) (by simp) (AllReadyH.cons rfl (fun K hK => ?_) AllReadyH.nil)
                  go_simp
                  refine (full_ok _ y).mono ?_
                  rintro r w6 ⟨rfl, hc6, hb6⟩
                  go_wp2_with fail
                  refine hK.out _ _ (hH.call hb6) (fun hH' => ?_)
                  have hq6 : (convert 37 9 (.slice (some ⟨wr.heap.size, 0, none⟩) 512 512)).run Try.prog w6 = .ok (.string (str (fullL y))) w6 := toStr (full_bs hc6) 512
                  clear hK K hH
                  have hH := hH'
                  clear hH'
                  try simp only [Act.put, List.setIfInBounds_toArray, List.set_cons_zero, List.set_cons_succ, List.getElem_toArray, List.getElem_cons_succ, List.getElem_cons_zero]
                  refine wpAnyH_ready (rs := [7]) (by kernel_rfl) (by simp) (AllReadyH.cons rfl (fun K hK => ?_) AllReadyH.nil)
                  go_simp
                  refine hK.out _ _ hH (fun hH' => ?_)
                  clear hK K hH
                  have hH := hH'
                  clear hH'
                  try simp only [Act.put, List.setIfInBounds_toArray, List.set_cons_zero, List.set_cons_succ, List.getElem_toArray, List.getElem_cons_succ, List.getElem_cons_zero]
                  clear hq6 hc6
                  refine wpAnyH_take (i := 8) (v := .bool false) rfl (by kernel_rfl) (by kernel_rfl) (by kernel_rfl) (fun _ _ _ h => h) (Or.inl ⟨by rfl, ?_⟩) hH ?_
                  · intro V hV; go_simp
                  try simp only [Act.put, List.setIfInBounds_toArray, List.set_cons_zero, List.set_cons_succ, List.getElem_toArray, List.getElem_cons_succ, List.getElem_cons_zero]
                  refine wpAnyH_done (by kernel_rfl) ?_ _
                  clear hu hq
                  go_wp2_with fail
                  go_roundw
                  case rel => exact ⟨q + 1, by omega, by go_num, HBI.out.trans (Below.mono hH HBI.out.size)⟩
                  case measure => simp [Go.RowKit.intOf]; omega
                · obtain ⟨r, rfl⟩ : ∃ r, q = k + r := ⟨q - k, by omega⟩
                  have hyv : y = if ks.getD r false then bs.getD r 0#8 else 0#8 := by rw [hy]; unfold want; rw [if_neg (by rw [HLA.out]; omega), HLA.out, Nat.add_sub_cancel_left]
                  by_cases hrk : r < nk
                  · obtain ⟨kd, hkd⟩ : ∃ kd, kA' = some kd ∧ wr.cell? (kd.add r) = some (.bool (ks.getD r false)) := by
                      obtain ⟨A, c, e, _, h0⟩ := HK.out.below hbw
                      cases e
                      obtain ⟨kd, e, _, h1⟩ := h0 (by rw [HKL.out]; omega)
                      exact ⟨kd, e, h1 r _ (by rw [List.getD_eq_getElem?_getD, List.getElem?_eq_getElem (by rw [HKL.out]; exact hrk)]; rfl)⟩
                    obtain ⟨hA, hkc⟩ := hkd
                    subst hA
                    cases hkb : ks.getD r false
                    · rw [hkb] at hkc hyv
                      simp only [Bool.false_eq_true, if_false] at hyv
                      subst hyv
                      clear hy hbw hkb
                      go_wp2_with fail
                      refine wp_region_held_drew (S := From wr) (by kernel_rfl) (From.self _).drew (fun hH => ?_)
                      refine wpAnyH_take (i := 0) (v := .slice (some ⟨g, 0, none⟩) (k + j) gc) rfl (by kernel_rfl) (by kernel_rfl) (by kernel_rfl) (fun _ _ _ h => h) (Or.inl ⟨by rfl, ?_⟩) hH ?_
                      · intro V hV; go_simp
                      try simp only [Act.put, List.setIfInBounds_toArray, List.set_cons_zero, List.set_cons_succ, List.getElem_toArray, List.getElem_cons_succ, List.getElem_cons_zero]
                      refine wpAnyH_take (i := 1) (v := .int .i64 ((k + r : Nat) : Int)) rfl (by kernel_rfl) (by kernel_rfl) (by kernel_rfl) (fun _ _ _ h => h) (Or.inl ⟨by rfl, ?_⟩) hH ?_
                      · intro V hV; go_simp
                      try simp only [Act.put, List.setIfInBounds_toArray, List.set_cons_zero, List.set_cons_succ, List.getElem_toArray, List.getElem_cons_succ, List.getElem_cons_zero]
                      refine wpAnyH_take (i := 2) (v := .pointer (some ⟨g, k + r, none⟩)) rfl (by kernel_rfl) (by kernel_rfl) (by kernel_rfl) (fun _ _ _ h => h) (Or.inl ⟨by rfl, ?_⟩) hH ?_
                      · intro V hV; have z0 : (0 : Int) ≤ (k : Int) + (r : Int) := (by omega); have z1 : ((k : Int) + (r : Int)).toNat = k + r := (by omega); go_simp
                      try simp only [Act.put, List.setIfInBounds_toArray, List.set_cons_zero, List.set_cons_succ, List.getElem_toArray, List.getElem_cons_succ, List.getElem_cons_zero]
                      refine wpAnyH_take (i := 3) (v := .slice Ax 512 cx) rfl (by kernel_rfl) (by kernel_rfl) (by kernel_rfl) (fun _ _ _ h => h) (Or.inl ⟨by rfl, ?_⟩) hH ?_
                      · intro V hV; have k := hu V hV; go_simp
                      try simp only [Act.put, List.setIfInBounds_toArray, List.set_cons_zero, List.set_cons_succ, List.getElem_toArray, List.getElem_cons_succ, List.getElem_cons_zero]
                      refine wpAnyH_take (i := 4) (v := .string (str (fullL 0#8))) rfl (by kernel_rfl) (by kernel_rfl) (by kernel_rfl) (fun _ _ _ h => h) (Or.inl ⟨by rfl, ?_⟩) hH ?_
                      · intro V hV; have k := hq V hV; go_simp
                      try simp only [Act.put, List.setIfInBounds_toArray, List.set_cons_zero, List.set_cons_succ, List.getElem_toArray, List.getElem_cons_succ, List.getElem_cons_zero]
                      refine wpAnyH_take (i := 5) (v := .int .u8 0) rfl (by kernel_rfl) (by kernel_rfl) (by kernel_rfl) (fun _ _ _ h => h) (Or.inl ⟨by rfl, ?_⟩) hH ?_
                      · intro V hV; go_simp
                      try simp only [Act.put, List.setIfInBounds_toArray, List.set_cons_zero, List.set_cons_succ, List.getElem_toArray, List.getElem_cons_succ, List.getElem_cons_zero]
                      refine wpAnyH_ready (rs := [6]) (by kernel_rfl) (by simp) (AllReadyH.cons rfl (fun K hK => ?_) AllReadyH.nil)
                      go_simp
                      refine (full_ok _ 0#8).mono ?_
                      rintro r w6 ⟨rfl, hc6, hb6⟩
                      go_wp2_with fail
                      refine hK.out _ _ (hH.call hb6) (fun hH' => ?_)
                      have hq6 : (convert 37 9 (.slice (some ⟨wr.heap.size, 0, none⟩) 512 512)).run Try.prog w6 = .ok (.string (str (fullL 0#8))) w6 := toStr (full_bs hc6) 512
                      clear hK K hH
                      have hH := hH'
                      clear hH'
                      try simp only [Act.put, List.setIfInBounds_toArray, List.set_cons_zero, List.set_cons_succ, List.getElem_toArray, List.getElem_cons_succ, List.getElem_cons_zero]
                      refine wpAnyH_ready (rs := [7]) (by kernel_rfl) (by simp) (AllReadyH.cons rfl (fun K hK => ?_) AllReadyH.nil)
                      go_simp
                      refine hK.out _ _ hH (fun hH' => ?_)
                      clear hK K hH
                      have hH := hH'
                      clear hH'
                      try simp only [Act.put, List.setIfInBounds_toArray, List.set_cons_zero, List.set_cons_succ, List.getElem_toArray, List.getElem_cons_succ, List.getElem_cons_zero]
                      clear hq6 hc6
                      refine wpAnyH_take (i := 8) (v := .bool false) rfl (by kernel_rfl) (by kernel_rfl) (by kernel_rfl) (fun _ _ _ h => h) (Or.inl ⟨by rfl, ?_⟩) hH ?_
                      · intro V hV; go_simp
                      try simp only [Act.put, List.setIfInBounds_toArray, List.set_cons_zero, List.set_cons_succ, List.getElem_toArray, List.getElem_cons_succ, List.getElem_cons_zero]
                      refine wpAnyH_done (by kernel_rfl) ?_ _
                      clear hu hq
                      go_wp2_with fail
                      go_roundw
                      case rel => exact ⟨k + r + 1, by omega, by go_num, HBI.out.trans (Below.mono hH HBI.out.size)⟩
                      case measure => simp [Go.RowKit.intOf]; omega
                    · rw [hkb] at hkc hyv
                      simp only [if_true] at hyv
                      obtain ⟨ad, hA, _, hcell⟩ := (HB.out.below hbw).at_ (k := r) (by omega)
                      subst hA
                      rw [← hyv] at hcell
                      clear hy hyv hbw hkb
                      go_wp2_with fail
                      refine wp_region_held_drew (S := From wr) (by kernel_rfl) (From.self _).drew (fun hH => ?_)
                      refine wpAnyH_take (i := 0) (v := .slice (some ⟨g, 0, none⟩) (k + j) gc) rfl (by kernel_rfl) (by kernel_rfl) (by kernel_rfl) (fun _ _ _ h => h) (Or.inl ⟨by rfl, ?_⟩) hH ?_
                      · intro V hV; go_simp
                      try simp only [Act.put, List.setIfInBounds_toArray, List.set_cons_zero, List.set_cons_succ, List.getElem_toArray, List.getElem_cons_succ, List.getElem_cons_zero]
                      refine wpAnyH_take (i := 1) (v := .int .i64 ((k + r : Nat) : Int)) rfl (by kernel_rfl) (by kernel_rfl) (by kernel_rfl) (fun _ _ _ h => h) (Or.inl ⟨by rfl, ?_⟩) hH ?_
                      · intro V hV; go_simp
                      try simp only [Act.put, List.setIfInBounds_toArray, List.set_cons_zero, List.set_cons_succ, List.getElem_toArray, List.getElem_cons_succ, List.getElem_cons_zero]
                      refine wpAnyH_take (i := 2) (v := .pointer (some ⟨g, k + r, none⟩)) rfl (by kernel_rfl) (by kernel_rfl) (by kernel_rfl) (fun _ _ _ h => h) (Or.inl ⟨by rfl, ?_⟩) hH ?_
                      · intro V hV; have z0 : (0 : Int) ≤ (k : Int) + (r : Int) := (by omega); have z1 : ((k : Int) + (r : Int)).toNat = k + r := (by omega); go_simp
                      try simp only [Act.put, List.setIfInBounds_toArray, List.set_cons_zero, List.set_cons_succ, List.getElem_toArray, List.getElem_cons_succ, List.getElem_cons_zero]
                      refine wpAnyH_take (i := 3) (v := .slice Ax 512 cx) rfl (by kernel_rfl) (by kernel_rfl) (by kernel_rfl) (fun _ _ _ h => h) (Or.inl ⟨by rfl, ?_⟩) hH ?_
                      · intro V hV; have k := hu V hV; go_simp
                      try simp only [Act.put, List.setIfInBounds_toArray, List.set_cons_zero, List.set_cons_succ, List.getElem_toArray, List.getElem_cons_succ, List.getElem_cons_zero]
                      refine wpAnyH_take (i := 4) (v := .string (str (fullL y))) rfl (by kernel_rfl) (by kernel_rfl) (by kernel_rfl) (fun _ _ _ h => h) (Or.inl ⟨by rfl, ?_⟩) hH ?_
                      · intro V hV; have k := hq V hV; go_simp
                      try simp only [Act.put, List.setIfInBounds_toArray, List.set_cons_zero, List.set_cons_succ, List.getElem_toArray, List.getElem_cons_succ, List.getElem_cons_zero]
                      refine wpAnyH_take (i := 5) (v := .int .u8 (y.toNat : Int)) rfl (by kernel_rfl) (by kernel_rfl) (by kernel_rfl) (fun _ _ _ h => h) (Or.inl ⟨by rfl, ?_⟩) hH ?_
                      · intro V hV; go_simp
                      try simp only [Act.put, List.setIfInBounds_toArray, List.set_cons_zero, List.set_cons_succ, List.getElem_toArray, List.getElem_cons_succ, List.getElem_cons_zero]
                      refine wpAnyH_ready (rs := [6]) (by kernel_rfl) (by simp) (AllReadyH.cons rfl (fun K hK => ?_) AllReadyH.nil)
                      go_simp
                      refine (full_ok _ y).mono ?_
                      rintro r w6 ⟨rfl, hc6, hb6⟩
                      go_wp2_with fail
                      refine hK.out _ _ (hH.call hb6) (fun hH' => ?_)
                      have hq6 : (convert 37 9 (.slice (some ⟨wr.heap.size, 0, none⟩) 512 512)).run Try.prog w6 = .ok (.string (str (fullL y))) w6 := toStr (full_bs hc6) 512
                      clear hK K hH
                      have hH := hH'
                      clear hH'
                      try simp only [Act.put, List.setIfInBounds_toArray, List.set_cons_zero, List.set_cons_succ, List.getElem_toArray, List.getElem_cons_succ, List.getElem_cons_zero]
                      refine wpAnyH_ready (rs := [7]) (by kernel_rfl) (by simp) (AllReadyH.cons rfl (fun K hK => ?_) AllReadyH.nil)
                      go_simp
                      refine hK.out _ _ hH (fun hH' => ?_)
                      clear hK K hH
                      have hH := hH'
                      clear hH'
                      try simp only [Act.put, List.setIfInBounds_toArray, List.set_cons_zero, List.set_cons_succ, List.getElem_toArray, List.getElem_cons_succ, List.getElem_cons_zero]
                      clear hq6 hc6
                      refine wpAnyH_take (i := 8) (v := .bool false) rfl (by kernel_rfl) (by kernel_rfl) (by kernel_rfl) (fun _ _ _ h => h) (Or.inl ⟨by rfl, ?_⟩) hH ?_
                      · intro V hV; go_simp
                      try simp only [Act.put, List.setIfInBounds_toArray, List.set_cons_zero, List.set_cons_succ, List.getElem_toArray, List.getElem_cons_succ, List.getElem_cons_zero]
                      refine wpAnyH_done (by kernel_rfl) ?_ _
                      clear hu hq
                      go_wp2_with fail
                      go_roundw
                      case rel => exact ⟨k + r + 1, by omega, by go_num, HBI.out.trans (Below.mono hH HBI.out.size)⟩
                      case measure => simp [Go.RowKit.intOf]; omega
                  · have hkb : ks.getD r false = false := by rw [List.getD_eq_getElem?_getD, List.getElem?_eq_none (by rw [HKL.out]; omega)]; rfl
                    rw [hkb] at hyv
                    simp only [Bool.false_eq_true, if_false] at hyv
                    subst hyv
                    clear hy hbw hkb
                    go_wp2_with fail
                    refine wp_region_held_drew (S := From wr) (by kernel_rfl) (From.self _).drew (fun hH => ?_)
                    refine wpAnyH_take (i := 0) (v := .slice (some ⟨g, 0, none⟩) (k + j) gc) rfl (by kernel_rfl) (by kernel_rfl) (by kernel_rfl) (fun _ _ _ h => h) (Or.inl ⟨by rfl, ?_⟩) hH ?_
                    · intro V hV; go_simp
                    try simp only [Act.put, List.setIfInBounds_toArray, List.set_cons_zero, List.set_cons_succ, List.getElem_toArray, List.getElem_cons_succ, List.getElem_cons_zero]
                    refine wpAnyH_take (i := 1) (v := .int .i64 ((k + r : Nat) : Int)) rfl (by kernel_rfl) (by kernel_rfl) (by kernel_rfl) (fun _ _ _ h => h) (Or.inl ⟨by rfl, ?_⟩) hH ?_
                    · intro V hV; go_simp
                    try simp only [Act.put, List.setIfInBounds_toArray, List.set_cons_zero, List.set_cons_succ, List.getElem_toArray, List.getElem_cons_succ, List.getElem_cons_zero]
                    refine wpAnyH_take (i := 2) (v := .pointer (some ⟨g, k + r, none⟩)) rfl (by kernel_rfl) (by kernel_rfl) (by kernel_rfl) (fun _ _ _ h => h) (Or.inl ⟨by rfl, ?_⟩) hH ?_
                    · intro V hV; have z0 : (0 : Int) ≤ (k : Int) + (r : Int) := (by omega); have z1 : ((k : Int) + (r : Int)).toNat = k + r := (by omega); go_simp
                    try simp only [Act.put, List.setIfInBounds_toArray, List.set_cons_zero, List.set_cons_succ, List.getElem_toArray, List.getElem_cons_succ, List.getElem_cons_zero]
                    refine wpAnyH_take (i := 3) (v := .slice Ax 512 cx) rfl (by kernel_rfl) (by kernel_rfl) (by kernel_rfl) (fun _ _ _ h => h) (Or.inl ⟨by rfl, ?_⟩) hH ?_
                    · intro V hV; have k := hu V hV; go_simp
                    try simp only [Act.put, List.setIfInBounds_toArray, List.set_cons_zero, List.set_cons_succ, List.getElem_toArray, List.getElem_cons_succ, List.getElem_cons_zero]
                    refine wpAnyH_take (i := 4) (v := .string (str (fullL 0#8))) rfl (by kernel_rfl) (by kernel_rfl) (by kernel_rfl) (fun _ _ _ h => h) (Or.inl ⟨by rfl, ?_⟩) hH ?_
                    · intro V hV; have k := hq V hV; go_simp
                    try simp only [Act.put, List.setIfInBounds_toArray, List.set_cons_zero, List.set_cons_succ, List.getElem_toArray, List.getElem_cons_succ, List.getElem_cons_zero]
                    refine wpAnyH_take (i := 5) (v := .int .u8 0) rfl (by kernel_rfl) (by kernel_rfl) (by kernel_rfl) (fun _ _ _ h => h) (Or.inl ⟨by rfl, ?_⟩) hH ?_
                    · intro V hV; go_simp
                    try simp only [Act.put, List.setIfInBounds_toArray, List.set_cons_zero, List.set_cons_succ, List.getElem_toArray, List.getElem_cons_succ, List.getElem_cons_zero]
                    refine wpAnyH_ready (rs := [6]) (by kernel_rfl) (by simp) (AllReadyH.cons rfl (fun K hK => ?_) AllReadyH.nil)
                    go_simp
                    refine (full_ok _ 0#8).mono ?_
                    rintro r w6 ⟨rfl, hc6, hb6⟩
                    go_wp2_with fail
                    refine hK.out _ _ (hH.call hb6) (fun hH' => ?_)
                    have hq6 : (convert 37 9 (.slice (some ⟨wr.heap.size, 0, none⟩) 512 512)).run Try.prog w6 = .ok (.string (str (fullL 0#8))) w6 := toStr (full_bs hc6) 512
                    clear hK K hH
                    have hH := hH'
                    clear hH'
                    try simp only [Act.put, List.setIfInBounds_toArray, List.set_cons_zero, List.set_cons_succ, List.getElem_toArray, List.getElem_cons_succ, List.getElem_cons_zero]
                    refine wpAnyH_ready (rs := [7]) (by kernel_rfl) (by simp) (AllReadyH.cons rfl (fun K hK => ?_) AllReadyH.nil)
                    go_simp
                    refine hK.out _ _ hH (fun hH' => ?_)
                    clear hK K hH
                    have hH := hH'
                    clear hH'
                    try simp only [Act.put, List.setIfInBounds_toArray, List.set_cons_zero, List.set_cons_succ, List.getElem_toArray, List.getElem_cons_succ, List.getElem_cons_zero]
                    clear hq6 hc6
                    refine wpAnyH_take (i := 8) (v := .bool false) rfl (by kernel_rfl) (by kernel_rfl) (by kernel_rfl) (fun _ _ _ h => h) (Or.inl ⟨by rfl, ?_⟩) hH ?_
                    · intro V hV; go_simp
                    try simp only [Act.put, List.setIfInBounds_toArray, List.set_cons_zero, List.set_cons_succ, List.getElem_toArray, List.getElem_cons_succ, List.getElem_cons_zero]
                    refine wpAnyH_done (by kernel_rfl) ?_ _
                    clear hu hq
                    go_wp2_with fail
                    go_roundw
                    case rel => exact ⟨k + r + 1, by omega, by go_num, HBI.out.trans (Below.mono hH HBI.out.size)⟩
                    case measure => simp [Go.RowKit.intOf]; omega
              · obtain rfl : q = k + j := by omega
                have HBW := Lib.hid hbw
                clear hbi hbw hq0
                go_wp2_with fail
                refine (knows_ok wr).mono ?_
                rintro e w6 ⟨rfl, hb7⟩
                go_wp2_with fail
                go_ret
                exact ⟨rfl, HBW.out.trans (hb7.mono HBW.out.size)⟩
end Go.Proofs.Ytkoaelpmknaakaa.Disk
