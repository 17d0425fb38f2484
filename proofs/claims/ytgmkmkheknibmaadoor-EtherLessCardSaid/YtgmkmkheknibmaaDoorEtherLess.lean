/-
  With more lost nobody hears more, and whoever hears hears the same (up to 64 nodes, 100 links, 100 losses each).
  The walk is the prover's own; the frame of the row's step follows the kit's template.
-/
import Derived.Test.YtgmkmkheknibmaaDoorRows
import Derived.Test.YtgmkmkheknibmaaDoorLawKit
import Derived.Test.YtgmkmkheknibmaaDoorCards
import Derived.Test.YtgmkmkheknibmaaDoorTie
import Derived.SevenTiedAt
import Derived.Test.YtgmkmkheknibmaaDoorFlat
import Derived.Test.YtgmkmkheknibmaaDoorEtI
import Derived.Test.YtgmkmkheknibmaaDoorLkT
import Derived.LoopTactic
import Derived.Deep.QuietTactic
import Derived.BigQuiet
namespace Go.Proofs.YtgmkmkheknibmaaDoor.etherLess
open Go.ChangeShapes Go.WideShapes Go.ChangeAt Go.RowKit Go.ChangeMaps Go.WideElems
set_option linter.unusedVariables false

theorem cells1 {W : World} {vs : List Value} (h : Fit W [.int .i64, .int .i64] vs) : ∃ (s0 : Int) (s1 : Int), vs = [.int .i64 s0, .int .i64 s1] ∧ (Lit.int .i64 s0).wf = true ∧ (Lit.int .i64 s1).wf = true := by
  match vs, h.length, h with
  | [y0, y1], _, h =>
    obtain ⟨⟨x0, rfl, h0⟩, ⟨x1, rfl, h1⟩, _⟩ := h
    exact ⟨x0, x1, rfl, h0, h1⟩
theorem own : ownKnob Tryd.prog.godebug = none := by kernel_rfl
set_option linter.unusedSimpArgs false in
set_option maxHeartbeats 4000000 in
set_option maxRecDepth 100000 in
theorem walk (a0 : Int) (A1 : Option Addr) (n1 c1 : Nat) (f1 : Nat → List Value) (a2 : Int) (a3 : Int) (A4 : Option Addr) (n4 c4 : Nat) (z4 : List Int) (A5 : Option Addr) (n5 c5 : Nat) (z5 : List Int) (w : World) (w0 : (Lit.int .i64 a0).wf = true) (w1 : FlatRow w [.int .i64, .int .i64] A1 n1 c1 f1) (w2 : (Lit.int .u64 a2).wf = true) (w3 : (Lit.int .u64 a3).wf = true) (w4 : IntRow w .u64 A4 n4 c4 z4) (w5 : IntRow w .u64 A5 n5 c5 z5) (hT : Tab w) :
    Calls Tryd.prog 5 #[.int .i64 a0, .slice A1 n1 c1, .int .u64 a2, .int .u64 a3, .slice A4 n4 c4, .slice A5 n5 c5] w fun e w' => e = .returned (.bool true) ∧ Below w.heap.size w w' := by
  have HT := Lib.hid hT
  have ht0 := hT.2
  clear hT
  by_cases hneg : a0 < 1
  · go_enter Tryd.func5, Tryd.ntmps5
    go_wp2_with (first
      | ((go_at_call 6; refine (alive_yes _ HT.out).mono ?_; rintro e w1 ⟨rfl, hb1⟩; have HB1 := Lib.hid hb1; clear hb1))
      | ((go_at_call 7; refine (both_any _ (HT.out.below HB1.out HT.out.2) n hn1 hn2 _ n1 c1 _ (HP.out.below HB1.out)).mono ?_; rintro e w2 ⟨g, r, gm, rfl, hrun⟩; obtain ⟨M, hM⟩ : ∃ M, madeM n P n1 = M := ⟨_, rfl⟩; rw [hM] at hrun; have HB2 := Lib.hid (HB1.out.trans (hrun.s.below.mono HB1.out.size)); have HR2 := Lib.hid hrun; clear hrun hM))
      | ((at_builtin; refine wpList_append_row _ rfl (.tmp 50) (.tmp 51) _ rfl w2.heap.size 23 i0 _ 8 Tryd.underlying24 hi H0.out H1.out H2.out rfl _ 0 [] rfl (World.ownsRow_lit (base := w2.heap.size) (size := 1) w2 #[] 0 (Nat.le_refl _) (by simp [maxLen]) (by simp)) .u64 _ n4 c4 _ rfl ((HZ.out.below HB2.out).alloc _) (by unfold maxLen; omega) (by omega) (by simp) ?_; intro A3 c3 w3 hown3 hb3; simp only [Nat.zero_add, List.nil_append] at hown3; have HM3 := Lib.hid (show MoreRun w2 z4 z5 0 n4 (.slice A3 n4 c3) w3 from ⟨hown3, (below_alloc w2 _).trans (hb3.mono (by simp))⟩); clear hown3 hb3)))
    go_ret
    exact ⟨rfl, HB1.out⟩
  by_cases hbig : 64 < a0
  · go_enter Tryd.func5, Tryd.ntmps5
    go_wp2_with (first
      | ((go_at_call 6; refine (alive_yes _ HT.out).mono ?_; rintro e w1 ⟨rfl, hb1⟩; have HB1 := Lib.hid hb1; clear hb1))
      | ((go_at_call 7; refine (both_any _ (HT.out.below HB1.out HT.out.2) n hn1 hn2 _ n1 c1 _ (HP.out.below HB1.out)).mono ?_; rintro e w2 ⟨g, r, gm, rfl, hrun⟩; obtain ⟨M, hM⟩ : ∃ M, madeM n P n1 = M := ⟨_, rfl⟩; rw [hM] at hrun; have HB2 := Lib.hid (HB1.out.trans (hrun.s.below.mono HB1.out.size)); have HR2 := Lib.hid hrun; clear hrun hM))
      | ((at_builtin; refine wpList_append_row _ rfl (.tmp 50) (.tmp 51) _ rfl w2.heap.size 23 i0 _ 8 Tryd.underlying24 hi H0.out H1.out H2.out rfl _ 0 [] rfl (World.ownsRow_lit (base := w2.heap.size) (size := 1) w2 #[] 0 (Nat.le_refl _) (by simp [maxLen]) (by simp)) .u64 _ n4 c4 _ rfl ((HZ.out.below HB2.out).alloc _) (by unfold maxLen; omega) (by omega) (by simp) ?_; intro A3 c3 w3 hown3 hb3; simp only [Nat.zero_add, List.nil_append] at hown3; have HM3 := Lib.hid (show MoreRun w2 z4 z5 0 n4 (.slice A3 n4 c3) w3 from ⟨hown3, (below_alloc w2 _).trans (hb3.mono (by simp))⟩); clear hown3 hb3)))
    go_ret
    exact ⟨rfl, HB1.out⟩
  by_cases hlong : 100 < n1
  · have d3 : decide (100 < (n1 : Int)) = true := decide_eq_true (by omega)
    go_enter Tryd.func5, Tryd.ntmps5
    go_wp2_with (first
      | ((go_at_call 6; refine (alive_yes _ HT.out).mono ?_; rintro e w1 ⟨rfl, hb1⟩; have HB1 := Lib.hid hb1; clear hb1))
      | ((go_at_call 7; refine (both_any _ (HT.out.below HB1.out HT.out.2) n hn1 hn2 _ n1 c1 _ (HP.out.below HB1.out)).mono ?_; rintro e w2 ⟨g, r, gm, rfl, hrun⟩; obtain ⟨M, hM⟩ : ∃ M, madeM n P n1 = M := ⟨_, rfl⟩; rw [hM] at hrun; have HB2 := Lib.hid (HB1.out.trans (hrun.s.below.mono HB1.out.size)); have HR2 := Lib.hid hrun; clear hrun hM))
      | ((at_builtin; refine wpList_append_row _ rfl (.tmp 50) (.tmp 51) _ rfl w2.heap.size 23 i0 _ 8 Tryd.underlying24 hi H0.out H1.out H2.out rfl _ 0 [] rfl (World.ownsRow_lit (base := w2.heap.size) (size := 1) w2 #[] 0 (Nat.le_refl _) (by simp [maxLen]) (by simp)) .u64 _ n4 c4 _ rfl ((HZ.out.below HB2.out).alloc _) (by unfold maxLen; omega) (by omega) (by simp) ?_; intro A3 c3 w3 hown3 hb3; simp only [Nat.zero_add, List.nil_append] at hown3; have HM3 := Lib.hid (show MoreRun w2 z4 z5 0 n4 (.slice A3 n4 c3) w3 from ⟨hown3, (below_alloc w2 _).trans (hb3.mono (by simp))⟩); clear hown3 hb3)))
    go_ret
    exact ⟨rfl, HB1.out⟩
  have d3 : decide (100 < (n1 : Int)) = false := decide_eq_false (by omega)
  by_cases hlong4 : 100 < n4
  · have d4 : decide (100 < (n4 : Int)) = true := decide_eq_true (by omega)
    go_enter Tryd.func5, Tryd.ntmps5
    go_wp2_with (first
      | ((go_at_call 6; refine (alive_yes _ HT.out).mono ?_; rintro e w1 ⟨rfl, hb1⟩; have HB1 := Lib.hid hb1; clear hb1))
      | ((go_at_call 7; refine (both_any _ (HT.out.below HB1.out HT.out.2) n hn1 hn2 _ n1 c1 _ (HP.out.below HB1.out)).mono ?_; rintro e w2 ⟨g, r, gm, rfl, hrun⟩; obtain ⟨M, hM⟩ : ∃ M, madeM n P n1 = M := ⟨_, rfl⟩; rw [hM] at hrun; have HB2 := Lib.hid (HB1.out.trans (hrun.s.below.mono HB1.out.size)); have HR2 := Lib.hid hrun; clear hrun hM))
      | ((at_builtin; refine wpList_append_row _ rfl (.tmp 50) (.tmp 51) _ rfl w2.heap.size 23 i0 _ 8 Tryd.underlying24 hi H0.out H1.out H2.out rfl _ 0 [] rfl (World.ownsRow_lit (base := w2.heap.size) (size := 1) w2 #[] 0 (Nat.le_refl _) (by simp [maxLen]) (by simp)) .u64 _ n4 c4 _ rfl ((HZ.out.below HB2.out).alloc _) (by unfold maxLen; omega) (by omega) (by simp) ?_; intro A3 c3 w3 hown3 hb3; simp only [Nat.zero_add, List.nil_append] at hown3; have HM3 := Lib.hid (show MoreRun w2 z4 z5 0 n4 (.slice A3 n4 c3) w3 from ⟨hown3, (below_alloc w2 _).trans (hb3.mono (by simp))⟩); clear hown3 hb3)))
    go_ret
    exact ⟨rfl, HB1.out⟩
  have d4 : decide (100 < (n4 : Int)) = false := decide_eq_false (by omega)
  by_cases hlong5 : 100 < n5
  · have d5 : decide (100 < (n5 : Int)) = true := decide_eq_true (by omega)
    go_enter Tryd.func5, Tryd.ntmps5
    go_wp2_with (first
      | ((go_at_call 6; refine (alive_yes _ HT.out).mono ?_; rintro e w1 ⟨rfl, hb1⟩; have HB1 := Lib.hid hb1; clear hb1))
      | ((go_at_call 7; refine (both_any _ (HT.out.below HB1.out HT.out.2) n hn1 hn2 _ n1 c1 _ (HP.out.below HB1.out)).mono ?_; rintro e w2 ⟨g, r, gm, rfl, hrun⟩; obtain ⟨M, hM⟩ : ∃ M, madeM n P n1 = M := ⟨_, rfl⟩; rw [hM] at hrun; have HB2 := Lib.hid (HB1.out.trans (hrun.s.below.mono HB1.out.size)); have HR2 := Lib.hid hrun; clear hrun hM))
      | ((at_builtin; refine wpList_append_row _ rfl (.tmp 50) (.tmp 51) _ rfl w2.heap.size 23 i0 _ 8 Tryd.underlying24 hi H0.out H1.out H2.out rfl _ 0 [] rfl (World.ownsRow_lit (base := w2.heap.size) (size := 1) w2 #[] 0 (Nat.le_refl _) (by simp [maxLen]) (by simp)) .u64 _ n4 c4 _ rfl ((HZ.out.below HB2.out).alloc _) (by unfold maxLen; omega) (by omega) (by simp) ?_; intro A3 c3 w3 hown3 hb3; simp only [Nat.zero_add, List.nil_append] at hown3; have HM3 := Lib.hid (show MoreRun w2 z4 z5 0 n4 (.slice A3 n4 c3) w3 from ⟨hown3, (below_alloc w2 _).trans (hb3.mono (by simp))⟩); clear hown3 hb3)))
    go_ret
    exact ⟨rfl, HB1.out⟩
  have d5 : decide (100 < (n5 : Int)) = false := decide_eq_false (by omega)
  obtain ⟨n, rfl⟩ : ∃ n : Nat, a0 = n := ⟨a0.toNat, by omega⟩
  have hn1 : 1 ≤ n := by omega
  have hn2 : n ≤ 64 := by omega
  have hb2 := bounds_u64 w2
  have hb3 := bounds_u64 w3
  obtain ⟨S, rfl⟩ : ∃ S : Nat, a2 = S := ⟨a2.toNat, by omega⟩
  obtain ⟨K, rfl⟩ : ∃ K : Nat, a3 = K := ⟨a3.toNat, by omega⟩
  have hS : S < 18446744073709551616 := by omega
  have hK : K < 18446744073709551616 := by omega
  have d1 : decide ((n : Int) < 1) = false := decide_eq_false (by omega)
  have d2 : decide (64 < (n : Int)) = false := decide_eq_false (by omega)
  have hnn : ((n : Int) != (n : Int)) = false := by simp
  have HP := Lib.hid (PairRow.of w1)
  have HZ := Lib.hid w4
  have HY := Lib.hid w5
  obtain ⟨P, hP⟩ : ∃ P : Nat → Int × Int, (fun i => twoOf (f1 i)) = P := ⟨_, rfl⟩
  rw [hP] at HP
  obtain ⟨i0, hi, hz0, hz1, hz2⟩ := info_parts u64_info
  have H2 := Lib.hid hz2
  have H1 := Lib.hid hz1
  have H0 := Lib.hid hz0
  have hn4 : n4 ≤ 100 := by omega
  have hn5 : n5 ≤ 100 := by omega
  clear w1 w4 w5 w2 w3 hneg hbig hlong hlong4 hlong5 hb2 hb3 hP hz0 hz1 hz2
  go_enter Tryd.func5, Tryd.ntmps5
  go_wp2_with (first
    | ((go_at_call 6; refine (alive_yes _ HT.out).mono ?_; rintro e w1 ⟨rfl, hb1⟩; have HB1 := Lib.hid hb1; clear hb1))
    | ((go_at_call 7; refine (both_any _ (HT.out.below HB1.out HT.out.2) n hn1 hn2 _ n1 c1 _ (HP.out.below HB1.out)).mono ?_; rintro e w2 ⟨g, r, gm, rfl, hrun⟩; obtain ⟨M, hM⟩ : ∃ M, madeM n P n1 = M := ⟨_, rfl⟩; rw [hM] at hrun; have HB2 := Lib.hid (HB1.out.trans (hrun.s.below.mono HB1.out.size)); have HR2 := Lib.hid hrun; clear hrun hM))
    | ((at_builtin; refine wpList_append_row _ rfl (.tmp 50) (.tmp 51) _ rfl w2.heap.size 23 i0 _ 8 Tryd.underlying24 hi H0.out H1.out H2.out rfl _ 0 [] rfl (World.ownsRow_lit (base := w2.heap.size) (size := 1) w2 #[] 0 (Nat.le_refl _) (by simp [maxLen]) (by simp)) .u64 _ n4 c4 _ rfl ((HZ.out.below HB2.out).alloc _) (by unfold maxLen; omega) (by omega) (by simp) ?_; intro A3 c3 w3 hown3 hb3; simp only [Nat.zero_add, List.nil_append] at hown3; have HM3 := Lib.hid (show MoreRun w2 z4 z5 0 n4 (.slice A3 n4 c3) w3 from ⟨hown3, (below_alloc w2 _).trans (hb3.mono (by simp))⟩); clear hown3 hb3)))
  go_loopw [15, 55] (fun a i wr => ∃ (k m : Nat) (A : Option Addr) (c : Nat), k ≤ n5 ∧ a = .slice A m c ∧ i = .int .i64 k ∧ m = max n4 k ∧ MoreRun w2 z4 z5 k m (.slice A m c) wr) (fun _ i _ => n5 - (intOf i).toNat)
  case atStart => exact ⟨0, n4, A3, c3, Nat.zero_le _, rfl, rfl, by omega, HM3.out⟩
  case round =>
    obtain ⟨k, m, A, c, hk, rfl, rfl, hm, hrun⟩ := hrel
    clear HM3
    have hylen : (moreOf z4 z5 k).length = m := by rw [moreOf_len, HZ.out.len_eq, hm]
    have hm200 : m ≤ 200 := by omega
    have HMx := Lib.hid hm
    clear hm
    have hu := more_u64 (zs := z4) (ms := z5) (HZ.out.wf) (HY.out.wf) k
    by_cases hlt : k < n5
    · have hki : (k : Int) < (n5 : Int) := by omega
      have ew := IntWalk.i64_in ((k : Int) + 1) (by omega)
      obtain ⟨b5, off5, rfl, hb5, hc5⟩ := (HY.out.below HB2.out).cell (by omega)
      have x0 := (hrun.below.cell (p := ⟨b5, off5 + k, none⟩) hb5).trans (hc5 k hlt)
      have hx := u64_at (zs := z5) HY.out.wf k
      by_cases hkm : k < m
      · have dkm : decide ((k : Int) < (m : Int)) = true := decide_eq_true (by omega)
        have hkmi : (k : Int) < (m : Int) := by omega
        obtain ⟨g2, rfl, hg2, hg2'⟩ := own_form hrun.own (by omega)
        have y0 := own_cell hrun.own hkm
        have f0 := World.ownsRow.frozenAt hrun.own k
        have hy := u64_at hu k
        have hor := orZ_bits hy hx
        have hnext : moreOf z4 z5 (k + 1) = (moreOf z4 z5 k).set k (orZ ((moreOf z4 z5 k).getD k 0) (z5.getD k 0)) := by
          show (if k < (moreOf z4 z5 k).length then _ else _) = _
          rw [if_pos (by rw [hylen]; exact hkm)]
        have hown2 := own_set hrun.own k (orZ ((moreOf z4 z5 k).getD k 0) (z5.getD k 0))
        rw [← hnext] at hown2
        rw [show (moreOf z4 z5 k)[k]?.getD 0 = (moreOf z4 z5 k).getD k 0 from (List.getD_eq_getElem?_getD ..).symm] at y0
        obtain ⟨X, hX⟩ : ∃ X, z5.getD k 0 = X := ⟨_, rfl⟩
        obtain ⟨Y, hY⟩ : ∃ Y, (moreOf z4 z5 k).getD k 0 = Y := ⟨_, rfl⟩
        rw [hX] at x0 hor hown2
        rw [hY] at y0 hor hown2
        obtain ⟨Z, hZ⟩ : ∃ Z, orZ Y X = Z := ⟨_, rfl⟩
        rw [hZ] at hor hown2
        have HNx := Lib.hid (show MoreRun w2 z4 z5 (k + 1) m (.slice (some ⟨g2, 0, none⟩) m c) (wr.setCell ⟨g2, k, none⟩ (.int .u64 Z)) from ⟨hown2, hrun.below.setCell (p := ⟨g2, k, none⟩) hg2 _⟩)
        clear hrun hown2 hc5 hX hY hZ hnext hylen hu hx hy
        go_wp2
        go_roundw
        case rel => exact ⟨k + 1, m, some ⟨g2, 0, none⟩, c, by omega, rfl, by go_num, by have := HMx.out; omega, HNx.out⟩
        case measure => simp [intOf]; omega
      · have dkm : decide ((k : Int) < (m : Int)) = false := decide_eq_false (by omega)
        have hnext : moreOf z4 z5 (k + 1) = moreOf z4 z5 k ++ [z5.getD k 0] := by
          show (if k < (moreOf z4 z5 k).length then _ else _) = _
          rw [if_neg (by rw [hylen]; exact hkm)]
        obtain ⟨X, hX⟩ : ∃ X, z5.getD k 0 = X := ⟨_, rfl⟩
        rw [hX] at x0 hx hnext
        have HNext := Lib.hid hnext
        have HRn := Lib.hid hrun
        have HX := Lib.hid (u64_wf' hx.1 hx.2)
        clear hrun hc5 hX hnext hylen hu hx
        go_wp2_with (at_builtin; refine wpList_append_row _ rfl (.tmp 73) (.tmp 75) _ rfl w2.heap.size 23 i0 _ 8 Tryd.underlying24 hi H0.out H1.out H2.out rfl _ m _ rfl (HRn.out.own.alloc _) .u64 _ 1 1 [X] rfl (IntRow.laid wr 23 .u64 [X] 1 rfl (by simp [maxLen]) (fun z hz => by rw [List.mem_singleton.1 hz]; exact HX.out)) (by unfold maxLen; omega) (by omega) (by have := HRn.out.below.size; simp; omega) ?_; intro A6 c6 w6 hown6 hb6; rw [← List.map_append, ← HNext.out] at hown6; have HN6 := Lib.hid (show MoreRun w2 z4 z5 (k + 1) (m + 1) (.slice A6 (m + 1) c6) w6 from ⟨hown6, (HRn.out.below.alloc HRn.out.below.size _).trans hb6⟩); clear hown6 hb6)
        go_roundw
        case rel => exact ⟨k + 1, m + 1, A6, c6, by omega, rfl, by go_num, by have := HMx.out; omega, HN6.out⟩
        case measure => simp [intOf]; omega
    · have hkn : k = n5 := by omega
      subst hkn
      have hmore := more_all z4 z5 k
      have hall : IntRow wr .u64 A m c (moreOf z4 z5 k) := IntRow.of_own hrun.own hu
      obtain ⟨ys, hys⟩ : ∃ ys, moreOf z4 z5 k = ys := ⟨_, rfl⟩
      rw [hys] at hmore hall
      have HMore := Lib.hid hmore
      have hst := bstep (HR2.out.below' hrun.below) S K hS hK _ n4 c4 _ ((HZ.out.below HB2.out).below hrun.below)
      clear hrun hu hys hylen hmore hk hlt
      go_wp2_with (first
        | (go_at_call 8; (with_reducible refine hst.mono ?_); rintro e w4 ⟨q, rfl, hq, hr4, hrun4, hb4⟩; have hst2 := bstep hrun4 S K hS hK _ m c _ (hall.below hb4); have HQ := Lib.hid hr4; clear hr4 hrun4 hst hq hb4)
        | (go_at_call 8; (with_reducible refine hst2.mono ?_); rintro e w5 ⟨q2, rfl, hq, hr5, hrun5, hb5⟩; have HE5 := Lib.hid (ERun.mk hrun5 (HQ.out.below hb5 HQ.out.lt)); have HR5 := Lib.hid hr5; clear hr5 hrun5 hst2 hq hb5))
      go_loopw [100] (fun i wr => ∃ k : Nat, k ≤ n ∧ i = .int .i64 k ∧ ERun w1 n g r gm M q (earV M S K z4) wr ∧ Holds wr q2 35 (earRow (earV M S K ys) n)) (fun i _ => n - (intOf i).toNat)
      case atStart => exact ⟨0, Nat.zero_le _, rfl, HE5.out, HR5.out⟩
      case round =>
        obtain ⟨k, hk, rfl, hrun, hrow⟩ := hrel
        clear HE5 HR5 HQ
        by_cases hlt : k < n
        · have hki : (k : Int) < (n : Int) := by omega
          have x0 := hrun.row.cell (k * 2)
          have x1 := hrun.row.cell (k * 2 + 1)
          have y0 := hrow.cell (k * 2)
          have y1 := hrow.cell (k * 2 + 1)
          rw [earRow_from _ hlt] at x0 y0
          rw [earRow_why _ hlt] at x1 y1
          rw [ear_from M S K z4 ys k] at x0
          have hsame := fun h => congrArg Prod.snd (ear_more (M := M) (S := S) (K := K) (i := k) HMore.out h)
          have ew := IntWalk.i64_in ((k : Int) + 1) (by omega)
          obtain ⟨F, hF⟩ : ∃ F, (earV M S K ys k).1 = F := ⟨_, rfl⟩
          obtain ⟨Ya, hYa⟩ : ∃ Y, (earV M S K z4 k).2 = Y := ⟨_, rfl⟩
          obtain ⟨Yb, hYb⟩ : ∃ Y, (earV M S K ys k).2 = Y := ⟨_, rfl⟩
          rw [hF] at x0 y0
          rw [hYa] at x1
          rw [hYb] at y1
          rw [hYa, hYb] at hsame
          have hFF : (F != F) = false := by simp
          have HRn := Lib.hid hrun
          have HRow := Lib.hid hrow
          by_cases e1 : Yb = 1
          · have e2 := hsame e1
            rw [e1] at e2 y1
            rw [e2] at x1
            clear hsame
            clear hrun hrow hF hYa hYb
            go_wp2
            go_quiet (fail)
            go_wp2
            go_roundw
            case rel => exact ⟨k + 1, by omega, by go_num, HRn.out.below' (below_drewN (Below.refl _ _) _), HRow.out.drewN _⟩
            case measure => simp [intOf]; omega
          · have e1' : (Yb == 1) = false := by simp [e1]
            clear hsame
            clear hrun hrow hF hYa hYb
            go_wp2
            go_quiet (fail)
            go_wp2
            go_roundw
            case rel => exact ⟨k + 1, by omega, by go_num, HRn.out.below' (below_drewN (Below.refl _ _) _), HRow.out.drewN _⟩
            case measure => simp [intOf]; omega
        · have HF := Lib.hid (HB1.out.trans (hrun.run.s.below.mono HB1.out.size))
          clear hrun hrow
          go_wp2
          go_ret
          exact ⟨rfl, HF.out⟩

set_option maxRecDepth 100000 in
theorem lifted (os : Os) (started : os.Started) (H : Type) (enc : TypeId × Value → H) :
    ReturnsInHanded {} Tryd.checked os 5 .any (fun w args => (Rows.etherLessSpec.pre enc Tryd.prog Tryd.f5 [] false w args ∧ laidMetH Tryd.prog laidTab w) ∧ sizedMet enc Tryd.prog Tryd.f5 (OpenSpec.ofChange Rows.etherLessSpec) false w args) (Rows.etherLessSpec.post enc Tryd.prog Tryd.f5 false true false false) := by
  refine returnsInHanded_of_change_and (C := Tryd.checked) (X := fun w _ => laidMetH Tryd.prog laidTab w) (fun _ _ _ hh h => h.of_heap hh) own started (by kernel_rfl) Tryd.func5
    (ChangeSpec.witness_shaped (enc := enc) (C := Tryd.checked) (os := os) (X := fun w _ => laidMetH Tryd.prog laidTab w) false (World.doorLaid Tryd.prog 14 os) #[.int .i64 0, .slice none 0 0, .int .u64 0, .int .u64 0, .slice none 0 0, .slice none 0 0] 8 rfl (World.shaped_of_RefB (by kernel_rfl) (by kernel_rfl)) (by kernel_rfl) (by kernel_rfl) (by kernel_rfl) (door_met os _)) ?_
  intro W base args ds gs before hval0 hW _ _ hL _
  have hval : ∀ (j : Nat) t v, Tryd.f5.params[j]? = some t → args[j]? = some v → Value.okWide Tryd.prog W .any base t v := hval0
  have hW' := hW
  obtain ⟨p, q, hA0, hV, rfl, hfz, hnd⟩ := hW
  have hA : DataW.TrodAll enc Tryd.prog W 0 (fun _ => true) true Tryd.f5.params.toList args.toList ds p := hA0
  have hAk := hA
  rw [Tryd.params5] at hA hval
  obtain ⟨v0, vs0, d0, ds0, p0, q0, hargs, rfl, hp, h0, r0⟩ := trodAll_cons hA
  obtain ⟨v1, vs1, d1, ds1, p1, q1, rfl, rfl, rfl, h1, r1⟩ := trodAll_cons r0
  obtain ⟨v2, vs2, d2, ds2, p2, q2, rfl, rfl, rfl, h2, r2⟩ := trodAll_cons r1
  obtain ⟨v3, vs3, d3, ds3, p3, q3, rfl, rfl, rfl, h3, r3⟩ := trodAll_cons r2
  obtain ⟨v4, vs4, d4, ds4, p4, q4, rfl, rfl, rfl, h4, r4⟩ := trodAll_cons r3
  obtain ⟨v5, vs5, d5, ds5, p5, q5, rfl, rfl, rfl, h5, r5⟩ := trodAll_cons r4
  obtain ⟨rfl, rfl, rfl⟩ := trodAll_nil r5
  obtain rfl : args = #[v0, v1, v2, v3, v4, v5] := by cases args; simp_all
  obtain ⟨rfl, rfl⟩ := trodVars_none hV
  clear hA0 hval0 hargs
  simp only [List.append_nil] at hW'
  have hend : ∀ W' : World, Below W.heap.size W W' → Rows.etherLessSpec.post enc Tryd.prog Tryd.f5 false true false false W #[v0, v1, v2, v3, v4, v5] (.bool true) W' := fun W' hb =>
    law_post (tb := 4) hW' hAk rfl (by kernel_rfl) (by kernel_rfl) (by kernel_rfl) Tryd.underlying4 rfl rfl rfl hb
  clear hW' hAk hp
  obtain ⟨a0, rfl, rfl, rfl, w0⟩ := open_int Tryd.underlying3 (hval 0 3 v0 rfl rfl) h0
  obtain ⟨A1, n1, c1, f1, rfl, w1⟩ := flats_arg (ks := [.int .i64, .int .i64]) 9 Tryd.underlying22 (by kernel_rfl) (by kernel_rfl) (by decide) (hval 1 22 v1 rfl rfl) h1
  obtain ⟨a2, rfl, rfl, rfl, w2⟩ := open_int Tryd.underlying23 (hval 2 23 v2 rfl rfl) h2
  obtain ⟨a3, rfl, rfl, rfl, w3⟩ := open_int Tryd.underlying23 (hval 3 23 v3 rfl rfl) h3
  obtain ⟨A4, n4, c4, z4, rfl, w4⟩ := ints_arg Tryd.underlying24 Tryd.underlying23 (by kernel_rfl) (hval 4 24 v4 rfl rfl) h4
  obtain ⟨A5, n5, c5, z5, rfl, w5⟩ := ints_arg Tryd.underlying24 Tryd.underlying23 (by kernel_rfl) (hval 5 24 v5 rfl rfl) h5
  refine (walk a0 A1 n1 c1 f1 a2 a3 A4 n4 c4 z4 A5 n5 c5 z5 W w0 w1 w2 w3 w4 w5 (tab_of_laid hL)).mono fun e W' ⟨he, hg⟩ => ?_
  subst he
  exact ⟨_, rfl, hend W' hg⟩

theorem over : Rows.etherLessRow.holds Tryd.pinned (OpenSpec.ofChange Rows.etherLessSpec) :=
  OpenClaim.holds_of_wide 5 Tryd.f5 rfl rfl rfl rfl rfl rfl rfl ⟨rfl, rfl, rfl, rfl, rfl⟩ rfl rfl rfl rfl rfl (by kernel_rfl) Tryd.func5 (by kernel_rfl)
    (of_decide_eq_true (by kernel_rfl)) (by unfold Func.isWrapper; first | (rw [if_pos (by decide +kernel)]; kernel_rfl) | (rw [if_neg (by decide +kernel)]; exact ⟨rfl, rfl⟩))
    (fun os started H enc _ => lifted os started H enc)

/-- THE STATEMENT: the tied card -/
theorem proved : Rows.EtherLessCardSaid :=
  Claim7.holds_tied_plain_at .later [] [.data] true (true, "bc89362d3762e64a700d993b1b79e52b0b191728635cd1a77fe1a5707ff4c3fa") false
    over (fun _ h => by cases h) (by kernel_rfl) (fun _ h => by cases h) etherLess_row_tie rfl ⟨rfl, rfl⟩ (by kernel_rfl) rfl
    (fun f fn hf hfn => by
      obtain rfl : f = 5 := Option.some.inj ((show Tryd.prog.funcNamed "angelus/angeluslaw09.EtherLess" = some 5 by kernel_rfl).symm.trans hf) |>.symm
      obtain rfl : fn = Tryd.f5 := (Option.some.inj (Tryd.func5.symm.trans hfn)).symm
      exact ⟨by kernel_rfl, fun j t ht => by
        rw [Tryd.params5] at ht
        have hm : t ∈ [3, 22, 23, 23, 24, 24] := by simpa using Array.mem_of_getElem? ht
        have hall : ([3, 22, 23, 23, 24, 24].all fun u => !Tryd.prog.wantsStandIn u) = true := by kernel_rfl
        exact (show Tryd.prog.wantsStandIn t = false by simpa using List.all_eq_true.1 hall t hm)⟩)
    (by kernel_rfl)
#print axioms proved
end Go.Proofs.YtgmkmkheknibmaaDoor.etherLess
