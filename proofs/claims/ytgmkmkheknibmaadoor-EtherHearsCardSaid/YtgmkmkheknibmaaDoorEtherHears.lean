/-
  EtherHears: Step and Ask answer what the document says, of all links, senders, sleepers and losses; of nil links nothing is heard (up to 64 nodes, 100 links, 100 losses).
  The walk is the prover's own; the frame of the row's step follows the kit's template.
-/
import Derived.Test.YtgmkmkheknibmaaDoorRows
import Derived.Test.YtgmkmkheknibmaaDoorLawKit
import Derived.Test.YtgmkmkheknibmaaDoorCards
import Derived.Test.YtgmkmkheknibmaaDoorTie
import Derived.SevenTiedAt
import Derived.Test.YtgmkmkheknibmaaDoorFlat
import Derived.Test.YtgmkmkheknibmaaDoorEtG
import Derived.Test.YtgmkmkheknibmaaDoorLkT
import Derived.LoopTactic
import Derived.Deep.QuietTactic
import Derived.BigQuiet
namespace Go.Proofs.YtgmkmkheknibmaaDoor.etherHears
open Go.ChangeShapes Go.WideShapes Go.ChangeAt Go.RowKit Go.ChangeMaps Go.WideElems
set_option linter.unusedVariables false

theorem cells1 {W : World} {vs : List Value} (h : Fit W [.int .i64, .int .i64] vs) : ∃ (s0 : Int) (s1 : Int), vs = [.int .i64 s0, .int .i64 s1] ∧ (Lit.int .i64 s0).wf = true ∧ (Lit.int .i64 s1).wf = true := by
  match vs, h.length, h with
  | [y0, y1], _, h =>
    obtain ⟨⟨x0, rfl, h0⟩, ⟨x1, rfl, h1⟩, _⟩ := h
    exact ⟨x0, x1, rfl, h0, h1⟩
theorem own : ownKnob Tryd.prog.godebug = none := by kernel_rfl
set_option linter.unusedSimpArgs false in
set_option maxHeartbeats 4000000 in
set_option maxRecDepth 100000 in
theorem walk (a0 : Int) (A1 : Option Addr) (n1 c1 : Nat) (f1 : Nat → List Value) (a2 : Int) (a3 : Int) (A4 : Option Addr) (n4 c4 : Nat) (z4 : List Int) (w : World) (w0 : (Lit.int .i64 a0).wf = true) (w1 : FlatRow w [.int .i64, .int .i64] A1 n1 c1 f1) (w2 : (Lit.int .u64 a2).wf = true) (w3 : (Lit.int .u64 a3).wf = true) (w4 : IntRow w .u64 A4 n4 c4 z4) (hT : Tab w) :
    Calls Tryd.prog 3 #[.int .i64 a0, .slice A1 n1 c1, .int .u64 a2, .int .u64 a3, .slice A4 n4 c4] w fun e w' => e = .returned (.bool true) ∧ Below w.heap.size w w' := by
  have HT := Lib.hid hT
  have ht0 := hT.2
  clear hT
  by_cases hneg : a0 < 1
  · go_enter Tryd.func3, Tryd.ntmps3
    go_wp2_with (first
      | ((go_at_call 6; refine (alive_yes _ HT.out).mono ?_; rintro e w1 ⟨rfl, hb1⟩; have HB1 := Lib.hid hb1; clear hb1))
      | ((go_at_call 7; refine (both_any _ (HT.out.below HB1.out HT.out.2) n hn1 hn2 _ n1 c1 _ (HP.out.below HB1.out)).mono ?_; rintro e w2 ⟨g, r, gm, rfl, hrun⟩; obtain ⟨M, hM⟩ : ∃ M, madeM n P n1 = M := ⟨_, rfl⟩; rw [hM] at hrun; have HB2 := Lib.hid (HB1.out.trans (hrun.s.below.mono HB1.out.size)); have hst := bstep hrun S K hS hK _ n4 c4 _ (HZ.out.below HB2.out); clear hrun hM))
      | ((go_at_call 8; (with_reducible refine hst.mono ?_); rintro e w3 ⟨q, rfl, hq, hr3, hrun3, hb3⟩; have HB3 := Lib.hid (HB2.out.trans (hb3.mono HB2.out.size)); have HE3 := Lib.hid (ERun.mk hrun3 hr3); clear hb3 hrun3 hr3 hst hq))
      | ((go_at_call 8; refine (step_nil _ _ _ _ _ _).mono ?_; rintro e w4 ⟨⟨A0, c0, rfl⟩, hb4⟩; have HB4 := Lib.hid (HB3.out.trans (hb4.mono HB3.out.size)); have HE4 := Lib.hid (HE3.out.below' hb4); clear hb4))
      | ((go_at_call 9; refine (ask_nil _ HE4.out.run.s.tab 0 q n _ HE4.out.row hn2).mono ?_; rintro e w5 ⟨rfl, hb5⟩; have HB5 := Lib.hid (HB4.out.trans (hb5.mono HB4.out.size)); have HE5 := Lib.hid (HE4.out.below' hb5); clear hb5)))
    go_ret
    exact ⟨rfl, HB1.out⟩
  by_cases hbig : 64 < a0
  · go_enter Tryd.func3, Tryd.ntmps3
    go_wp2_with (first
      | ((go_at_call 6; refine (alive_yes _ HT.out).mono ?_; rintro e w1 ⟨rfl, hb1⟩; have HB1 := Lib.hid hb1; clear hb1))
      | ((go_at_call 7; refine (both_any _ (HT.out.below HB1.out HT.out.2) n hn1 hn2 _ n1 c1 _ (HP.out.below HB1.out)).mono ?_; rintro e w2 ⟨g, r, gm, rfl, hrun⟩; obtain ⟨M, hM⟩ : ∃ M, madeM n P n1 = M := ⟨_, rfl⟩; rw [hM] at hrun; have HB2 := Lib.hid (HB1.out.trans (hrun.s.below.mono HB1.out.size)); have hst := bstep hrun S K hS hK _ n4 c4 _ (HZ.out.below HB2.out); clear hrun hM))
      | ((go_at_call 8; (with_reducible refine hst.mono ?_); rintro e w3 ⟨q, rfl, hq, hr3, hrun3, hb3⟩; have HB3 := Lib.hid (HB2.out.trans (hb3.mono HB2.out.size)); have HE3 := Lib.hid (ERun.mk hrun3 hr3); clear hb3 hrun3 hr3 hst hq))
      | ((go_at_call 8; refine (step_nil _ _ _ _ _ _).mono ?_; rintro e w4 ⟨⟨A0, c0, rfl⟩, hb4⟩; have HB4 := Lib.hid (HB3.out.trans (hb4.mono HB3.out.size)); have HE4 := Lib.hid (HE3.out.below' hb4); clear hb4))
      | ((go_at_call 9; refine (ask_nil _ HE4.out.run.s.tab 0 q n _ HE4.out.row hn2).mono ?_; rintro e w5 ⟨rfl, hb5⟩; have HB5 := Lib.hid (HB4.out.trans (hb5.mono HB4.out.size)); have HE5 := Lib.hid (HE4.out.below' hb5); clear hb5)))
    go_ret
    exact ⟨rfl, HB1.out⟩
  by_cases hlong : 100 < n1
  · have d3 : decide (100 < (n1 : Int)) = true := decide_eq_true (by omega)
    go_enter Tryd.func3, Tryd.ntmps3
    go_wp2_with (first
      | ((go_at_call 6; refine (alive_yes _ HT.out).mono ?_; rintro e w1 ⟨rfl, hb1⟩; have HB1 := Lib.hid hb1; clear hb1))
      | ((go_at_call 7; refine (both_any _ (HT.out.below HB1.out HT.out.2) n hn1 hn2 _ n1 c1 _ (HP.out.below HB1.out)).mono ?_; rintro e w2 ⟨g, r, gm, rfl, hrun⟩; obtain ⟨M, hM⟩ : ∃ M, madeM n P n1 = M := ⟨_, rfl⟩; rw [hM] at hrun; have HB2 := Lib.hid (HB1.out.trans (hrun.s.below.mono HB1.out.size)); have hst := bstep hrun S K hS hK _ n4 c4 _ (HZ.out.below HB2.out); clear hrun hM))
      | ((go_at_call 8; (with_reducible refine hst.mono ?_); rintro e w3 ⟨q, rfl, hq, hr3, hrun3, hb3⟩; have HB3 := Lib.hid (HB2.out.trans (hb3.mono HB2.out.size)); have HE3 := Lib.hid (ERun.mk hrun3 hr3); clear hb3 hrun3 hr3 hst hq))
      | ((go_at_call 8; refine (step_nil _ _ _ _ _ _).mono ?_; rintro e w4 ⟨⟨A0, c0, rfl⟩, hb4⟩; have HB4 := Lib.hid (HB3.out.trans (hb4.mono HB3.out.size)); have HE4 := Lib.hid (HE3.out.below' hb4); clear hb4))
      | ((go_at_call 9; refine (ask_nil _ HE4.out.run.s.tab 0 q n _ HE4.out.row hn2).mono ?_; rintro e w5 ⟨rfl, hb5⟩; have HB5 := Lib.hid (HB4.out.trans (hb5.mono HB4.out.size)); have HE5 := Lib.hid (HE4.out.below' hb5); clear hb5)))
    go_ret
    exact ⟨rfl, HB1.out⟩
  by_cases hlong4 : 100 < n4
  · have d3 : decide (100 < (n1 : Int)) = false := decide_eq_false (by omega)
    have d4 : decide (100 < (n4 : Int)) = true := decide_eq_true (by omega)
    go_enter Tryd.func3, Tryd.ntmps3
    go_wp2_with (first
      | ((go_at_call 6; refine (alive_yes _ HT.out).mono ?_; rintro e w1 ⟨rfl, hb1⟩; have HB1 := Lib.hid hb1; clear hb1))
      | ((go_at_call 7; refine (both_any _ (HT.out.below HB1.out HT.out.2) n hn1 hn2 _ n1 c1 _ (HP.out.below HB1.out)).mono ?_; rintro e w2 ⟨g, r, gm, rfl, hrun⟩; obtain ⟨M, hM⟩ : ∃ M, madeM n P n1 = M := ⟨_, rfl⟩; rw [hM] at hrun; have HB2 := Lib.hid (HB1.out.trans (hrun.s.below.mono HB1.out.size)); have hst := bstep hrun S K hS hK _ n4 c4 _ (HZ.out.below HB2.out); clear hrun hM))
      | ((go_at_call 8; (with_reducible refine hst.mono ?_); rintro e w3 ⟨q, rfl, hq, hr3, hrun3, hb3⟩; have HB3 := Lib.hid (HB2.out.trans (hb3.mono HB2.out.size)); have HE3 := Lib.hid (ERun.mk hrun3 hr3); clear hb3 hrun3 hr3 hst hq))
      | ((go_at_call 8; refine (step_nil _ _ _ _ _ _).mono ?_; rintro e w4 ⟨⟨A0, c0, rfl⟩, hb4⟩; have HB4 := Lib.hid (HB3.out.trans (hb4.mono HB3.out.size)); have HE4 := Lib.hid (HE3.out.below' hb4); clear hb4))
      | ((go_at_call 9; refine (ask_nil _ HE4.out.run.s.tab 0 q n _ HE4.out.row hn2).mono ?_; rintro e w5 ⟨rfl, hb5⟩; have HB5 := Lib.hid (HB4.out.trans (hb5.mono HB4.out.size)); have HE5 := Lib.hid (HE4.out.below' hb5); clear hb5)))
    go_ret
    exact ⟨rfl, HB1.out⟩
  obtain ⟨n, rfl⟩ : ∃ n : Nat, a0 = n := ⟨a0.toNat, by omega⟩
  have hn1 : 1 ≤ n := by omega
  have hn2 : n ≤ 64 := by omega
  have hb2 := bounds_u64 w2
  have hb3 := bounds_u64 w3
  obtain ⟨S, rfl⟩ : ∃ S : Nat, a2 = S := ⟨a2.toNat, by omega⟩
  obtain ⟨K, rfl⟩ : ∃ K : Nat, a3 = K := ⟨a3.toNat, by omega⟩
  have hS : S < 18446744073709551616 := by omega
  have hK : K < 18446744073709551616 := by omega
  have d1 : decide ((n : Int) < 1) = false := decide_eq_false (by omega)
  have d2 : decide (64 < (n : Int)) = false := decide_eq_false (by omega)
  have d3 : decide (100 < (n1 : Int)) = false := decide_eq_false (by omega)
  have d4 : decide (100 < (n4 : Int)) = false := decide_eq_false (by omega)
  have hnn : ((n : Int) != (n : Int)) = false := by simp
  have HP := Lib.hid (PairRow.of w1)
  have HZ := Lib.hid w4
  obtain ⟨P, hP⟩ : ∃ P : Nat → Int × Int, (fun i => twoOf (f1 i)) = P := ⟨_, rfl⟩
  rw [hP] at HP
  clear w1 w4 w2 w3 hneg hbig hlong hlong4 hb2 hb3 hP
  go_enter Tryd.func3, Tryd.ntmps3
  go_wp2_with (first
    | ((go_at_call 6; refine (alive_yes _ HT.out).mono ?_; rintro e w1 ⟨rfl, hb1⟩; have HB1 := Lib.hid hb1; clear hb1))
    | ((go_at_call 7; refine (both_any _ (HT.out.below HB1.out HT.out.2) n hn1 hn2 _ n1 c1 _ (HP.out.below HB1.out)).mono ?_; rintro e w2 ⟨g, r, gm, rfl, hrun⟩; obtain ⟨M, hM⟩ : ∃ M, madeM n P n1 = M := ⟨_, rfl⟩; rw [hM] at hrun; have HB2 := Lib.hid (HB1.out.trans (hrun.s.below.mono HB1.out.size)); have hst := bstep hrun S K hS hK _ n4 c4 _ (HZ.out.below HB2.out); clear hrun hM))
    | ((go_at_call 8; (with_reducible refine hst.mono ?_); rintro e w3 ⟨q, rfl, hq, hr3, hrun3, hb3⟩; have HB3 := Lib.hid (HB2.out.trans (hb3.mono HB2.out.size)); have HE3 := Lib.hid (ERun.mk hrun3 hr3); clear hb3 hrun3 hr3 hst hq))
    | ((go_at_call 8; refine (step_nil _ _ _ _ _ _).mono ?_; rintro e w4 ⟨⟨A0, c0, rfl⟩, hb4⟩; have HB4 := Lib.hid (HB3.out.trans (hb4.mono HB3.out.size)); have HE4 := Lib.hid (HE3.out.below' hb4); clear hb4))
    | ((go_at_call 9; refine (ask_nil _ HE4.out.run.s.tab 0 q n _ HE4.out.row hn2).mono ?_; rintro e w5 ⟨rfl, hb5⟩; have HB5 := Lib.hid (HB4.out.trans (hb5.mono HB4.out.size)); have HE5 := Lib.hid (HE4.out.below' hb5); clear hb5)))
  have HE := HE5
  clear HE3 HE4 HE5 HB2 HB3 HB4 HB5
  go_loopw [70] (fun i wr => ∃ k : Nat, k ≤ n ∧ i = .int .i64 k ∧ ERun w1 n g r gm M q (earV M S K z4) wr) (fun i _ => n - (intOf i).toNat)
  case atStart => exact ⟨0, Nat.zero_le _, rfl, HE.out⟩
  case round =>
    obtain ⟨k, hk, rfl, hrun⟩ := hrel
    clear HE
    by_cases hlt : k < n
    · have hki : (k : Int) < (n : Int) := by omega
      have x0 := hrun.row.cell (k * 2)
      have x1 := hrun.row.cell (k * 2 + 1)
      rw [earRow_from _ hlt] at x0
      rw [earRow_why _ hlt] at x1
      have hlow := HB1.out.trans (hrun.run.s.below.mono HB1.out.size)
      obtain ⟨F, hF⟩ : ∃ F, (earV M S K z4 k).1 = F := ⟨_, rfl⟩
      obtain ⟨Y, hY⟩ : ∃ Y, (earV M S K z4 k).2 = Y := ⟨_, rfl⟩
      have hrunA := hrun.below' (below_alloc wr (.cells #[.int .i64 F, .int .i64 Y] 35))
      have hear := bear hrunA.run k hlt S K hS hK _ n4 c4 _ (HZ.out.below (hlow.alloc hlow.size _))
      rw [hF] at x0 hear
      rw [hY] at x1 hear
      have hFF : (F != F) = false := by simp
      have hYY : (Y != Y) = false := by simp
      have ew := IntWalk.i64_in ((k : Int) + 1) (by omega)
      have HRn := Lib.hid hrunA
      clear hrun hrunA hF hY hlow
      go_wp2_with (go_at_call 10; (with_reducible refine hear.mono ?_); rintro e w' ⟨rfl, hw⟩; subst w')
      go_roundw
      case rel => exact ⟨k + 1, by omega, by go_num, HRn.out⟩
      case measure => simp [intOf]; omega
    · have HRn := Lib.hid hrun
      clear hrun
      go_wp2
      go_loopw [18] (fun i wr => ∃ k : Int, -1 ≤ k ∧ k ≤ (n : Int) + 1 ∧ i = .int .i64 k ∧ ERun w1 n g r gm M q (earV M S K z4) wr) (fun i _ => ((n : Int) + 1 - intOf i).toNat)
      case atStart => exact ⟨-1, Int.le_refl _, by omega, rfl, HRn.out⟩
      case round =>
        obtain ⟨y, hy1, hy2, rfl, hrun⟩ := hrel
        clear HRn
        by_cases hyl : y ≤ (n : Int)
        · have hask := bask hrun.run y q _ hrun.row
          have hout := near_out hrun.run y
          have hin0 := fun (i : Nat) (hi : i < 64) (j : Nat) (hj : j < n) (e : y = j) => by
            have := near_adj hrun.run j i hi
            rw [← e] at this
            simp only [hj, decide_true, Bool.and_true] at this
            exact this
          have hfit := askV_fit (nearV M y) (earV M S K z4) y
          have hbits := fun (i : Nat) (hi : i < 64) => askV_bit (nearV M y) (earV M S K z4) y i hi
          obtain ⟨H, hH⟩ : ∃ H, askV (nearV M y) (earV M S K z4) y = H := ⟨_, rfl⟩
          rw [hH] at hask hfit
          simp only [hH] at hbits
          have HBits := Lib.hid hbits
          have HOut := Lib.hid hout
          have HIn := Lib.hid hin0
          have dyl : decide (y ≤ (n : Int)) = true := decide_eq_true hyl
          have ew := IntWalk.i64_in (y + 1) (by omega)
          clear hrun hbits hout hin0 hH
          go_wp2_with (go_at_call 9; (with_reducible refine hask.mono ?_); rintro e w6 ⟨rfl, hrow6, hrun6, hb6⟩; have HE6 := Lib.hid (ERun.mk hrun6 hrow6); clear hrow6 hrun6 hb6)
          go_loopw [20] (fun i wr => ∃ k : Nat, k ≤ 64 ∧ i = .int .i64 k ∧ ERun w1 n g r gm M q (earV M S K z4) wr) (fun i _ => 64 - (intOf i).toNat)
          case atStart => exact ⟨0, Nat.zero_le _, rfl, HE6.out⟩
          case round =>
            obtain ⟨i, hi, rfl, hrun⟩ := hrel
            clear HE6
            by_cases hi64 : i < 64
            · have hki : (i : Int) < 64 := by omega
              have ewi := IntWalk.i64_in ((i : Int) + 1) (by omega)
              have hin := in_any wr H hfit (i : Int)
              rw [inSet_nat hi64] at hin
              have hbit := HBits.out i hi64
              by_cases hin1 : i < n
              · have hin2 : (i : Int) < (n : Int) := by omega
                have din : decide ((i : Int) < (n : Int)) = true := decide_eq_true hin2
                have x0 := hrun.row.cell (i * 2)
                have x1 := hrun.row.cell (i * 2 + 1)
                rw [earRow_from _ hin1] at x0
                rw [earRow_why _ hin1] at x1
                have eh : hitB (earV M S K z4) y i = decide ((earV M S K z4 i).1 = y ∧ (earV M S K z4 i).2 = 1) := by
                  unfold hitB
                  rw [decide_eq_decide, Prod.ext_iff]
                obtain ⟨F, hF⟩ : ∃ F, (earV M S K z4 i).1 = F := ⟨_, rfl⟩
                obtain ⟨Y, hY⟩ : ∃ Y, (earV M S K z4 i).2 = Y := ⟨_, rfl⟩
                rw [hF] at x0 eh
                rw [hY] at x1 eh
                by_cases hy0 : 0 ≤ y
                · by_cases hyn : y < (n : Int)
                  · obtain ⟨j, rfl⟩ : ∃ j : Nat, y = j := ⟨y.toNat, by omega⟩
                    have hj : j < n := by omega
                    have hj64 : (j : Int) < 64 := by omega
                    have dy0 : decide ((0 : Int) ≤ (j : Int)) = true := decide_eq_true (by omega)
                    have dyn : decide ((j : Int) < (n : Int)) = true := decide_eq_true hyn
                    have hna := HIn.out i hi64 j hj rfl
                    rw [hna] at hbit
                    simp only [hin1, decide_true, Bool.true_and] at hbit
                    have ck := hrun.run.d.at (i := i) (k := j) hi64 (by omega)
                    have HRn2 := Lib.hid hrun
                    clear hrun hna hF hY
                    rcases hadj : adj M i j with _ | _
                    · rw [hadj] at ck hbit
                      rw [Bool.false_and] at hbit
                      rw [hbit] at hin
                      have hff : (false != false) = false := rfl
                      clear hbit
                      go_wp2_with ((go_at_call 11; (with_reducible refine hin.mono ?_); rintro e w' ⟨rfl, hw⟩; subst w'))
                      go_roundw
                      case rel => exact ⟨i + 1, by omega, by go_num, HRn2.out⟩
                      case measure => simp [intOf]; omega
                    · rw [hadj] at ck hbit
                      rw [Bool.true_and, eh] at hbit
                      by_cases e1 : F = (j : Int)
                      · subst e1
                        have hjj : ((j : Int) == (j : Int)) = true := by simp
                        by_cases e2 : Y = 1
                        · subst e2
                          rw [hbit, decide_eq_true ⟨rfl, rfl⟩] at hin
                          clear hbit
                          go_wp2_with ((go_at_call 11; (with_reducible refine hin.mono ?_); rintro e w' ⟨rfl, hw⟩; subst w'))
                          go_roundw
                          case rel => exact ⟨i + 1, by omega, by go_num, HRn2.out⟩
                          case measure => simp [intOf]; omega
                        · have e2' : (Y == 1) = false := by simp [e2]
                          rw [hbit, decide_eq_false (fun h => e2 h.2)] at hin
                          clear hbit
                          go_wp2_with ((go_at_call 11; (with_reducible refine hin.mono ?_); rintro e w' ⟨rfl, hw⟩; subst w'))
                          go_roundw
                          case rel => exact ⟨i + 1, by omega, by go_num, HRn2.out⟩
                          case measure => simp [intOf]; omega
                      · have e1' : (F == (j : Int)) = false := by simp [e1]
                        rw [hbit, decide_eq_false (fun h => e1 h.1)] at hin
                        clear hbit
                        go_wp2_with ((go_at_call 11; (with_reducible refine hin.mono ?_); rintro e w' ⟨rfl, hw⟩; subst w'))
                        go_roundw
                        case rel => exact ⟨i + 1, by omega, by go_num, HRn2.out⟩
                        case measure => simp [intOf]; omega
                  · have dy0 : decide ((0 : Int) ≤ y) = true := decide_eq_true hy0
                    have dyn : decide (y < (n : Int)) = false := decide_eq_false hyn
                    rw [HOut.out (.inr (by omega)), Nat.zero_testBit, Bool.false_and] at hbit
                    rw [hbit] at hin
                    have HRn2 := Lib.hid hrun
                    clear hrun hF hY
                    clear hbit
                    go_wp2_with ((go_at_call 11; (with_reducible refine hin.mono ?_); rintro e w' ⟨rfl, hw⟩; subst w'))
                    go_roundw
                    case rel => exact ⟨i + 1, by omega, by go_num, HRn2.out⟩
                    case measure => simp [intOf]; omega
                · have dy0 : decide ((0 : Int) ≤ y) = false := decide_eq_false hy0
                  rw [HOut.out (.inl (by omega)), Nat.zero_testBit, Bool.false_and] at hbit
                  rw [hbit] at hin
                  have HRn2 := Lib.hid hrun
                  clear hrun hF hY
                  clear hbit
                  go_wp2_with ((go_at_call 11; (with_reducible refine hin.mono ?_); rintro e w' ⟨rfl, hw⟩; subst w'))
                  go_roundw
                  case rel => exact ⟨i + 1, by omega, by go_num, HRn2.out⟩
                  case measure => simp [intOf]; omega
              · have din : decide ((i : Int) < (n : Int)) = false := decide_eq_false (by omega)
                have hno : (nearV M y).testBit i = false := by
                  by_cases hy0 : y < 0 ∨ (n : Int) ≤ y
                  · rw [HOut.out hy0, Nat.zero_testBit]
                  · rw [HIn.out i hi64 y.toNat (by omega) (by omega), decide_eq_false hin1, Bool.false_and]
                rw [hno, Bool.false_and] at hbit
                rw [hbit] at hin
                have HRn2 := Lib.hid hrun
                clear hrun hno
                clear hbit
                go_wp2_with ((go_at_call 11; (with_reducible refine hin.mono ?_); rintro e w' ⟨rfl, hw⟩; subst w'))
                go_roundw
                case rel => exact ⟨i + 1, by omega, by go_num, HRn2.out⟩
                case measure => simp [intOf]; omega
            · have HRn := Lib.hid hrun
              clear hrun
              go_wp2
              go_roundw
              case rel => exact ⟨y + 1, by omega, by omega, by go_num, HRn.out⟩
              case measure => simp [intOf]; omega
        · have dyl : decide (y ≤ (n : Int)) = false := decide_eq_false hyl
          have HF := Lib.hid (HB1.out.trans (hrun.run.s.below.mono HB1.out.size))
          clear hrun
          go_wp2
          go_ret
          exact ⟨rfl, HF.out⟩

set_option maxRecDepth 100000 in
theorem lifted (os : Os) (started : os.Started) (H : Type) (enc : TypeId × Value → H) :
    ReturnsInHanded {} Tryd.checked os 3 .any (fun w args => (Rows.etherHearsSpec.pre enc Tryd.prog Tryd.f3 [] false w args ∧ laidMetH Tryd.prog laidTab w) ∧ sizedMet enc Tryd.prog Tryd.f3 (OpenSpec.ofChange Rows.etherHearsSpec) false w args) (Rows.etherHearsSpec.post enc Tryd.prog Tryd.f3 false true false false) := by
  refine returnsInHanded_of_change_and (C := Tryd.checked) (X := fun w _ => laidMetH Tryd.prog laidTab w) (fun _ _ _ hh h => h.of_heap hh) own started (by kernel_rfl) Tryd.func3
    (ChangeSpec.witness_shaped (enc := enc) (C := Tryd.checked) (os := os) (X := fun w _ => laidMetH Tryd.prog laidTab w) false (World.doorLaid Tryd.prog 14 os) #[.int .i64 0, .slice none 0 0, .int .u64 0, .int .u64 0, .slice none 0 0] 8 rfl (World.shaped_of_RefB (by kernel_rfl) (by kernel_rfl)) (by kernel_rfl) (by kernel_rfl) (by kernel_rfl) (door_met os _)) ?_
  intro W base args ds gs before hval0 hW _ _ hL _
  have hval : ∀ (j : Nat) t v, Tryd.f3.params[j]? = some t → args[j]? = some v → Value.okWide Tryd.prog W .any base t v := hval0
  have hW' := hW
  obtain ⟨p, q, hA0, hV, rfl, hfz, hnd⟩ := hW
  have hA : DataW.TrodAll enc Tryd.prog W 0 (fun _ => true) true Tryd.f3.params.toList args.toList ds p := hA0
  have hAk := hA
  rw [Tryd.params3] at hA hval
  obtain ⟨v0, vs0, d0, ds0, p0, q0, hargs, rfl, hp, h0, r0⟩ := trodAll_cons hA
  obtain ⟨v1, vs1, d1, ds1, p1, q1, rfl, rfl, rfl, h1, r1⟩ := trodAll_cons r0
  obtain ⟨v2, vs2, d2, ds2, p2, q2, rfl, rfl, rfl, h2, r2⟩ := trodAll_cons r1
  obtain ⟨v3, vs3, d3, ds3, p3, q3, rfl, rfl, rfl, h3, r3⟩ := trodAll_cons r2
  obtain ⟨v4, vs4, d4, ds4, p4, q4, rfl, rfl, rfl, h4, r4⟩ := trodAll_cons r3
  obtain ⟨rfl, rfl, rfl⟩ := trodAll_nil r4
  obtain rfl : args = #[v0, v1, v2, v3, v4] := by cases args; simp_all
  obtain ⟨rfl, rfl⟩ := trodVars_none hV
  clear hA0 hval0 hargs
  simp only [List.append_nil] at hW'
  have hend : ∀ W' : World, Below W.heap.size W W' → Rows.etherHearsSpec.post enc Tryd.prog Tryd.f3 false true false false W #[v0, v1, v2, v3, v4] (.bool true) W' := fun W' hb =>
    law_post (tb := 4) hW' hAk rfl (by kernel_rfl) (by kernel_rfl) (by kernel_rfl) Tryd.underlying4 rfl rfl rfl hb
  clear hW' hAk hp
  obtain ⟨a0, rfl, rfl, rfl, w0⟩ := open_int Tryd.underlying3 (hval 0 3 v0 rfl rfl) h0
  obtain ⟨A1, n1, c1, f1, rfl, w1⟩ := flats_arg (ks := [.int .i64, .int .i64]) 9 Tryd.underlying22 (by kernel_rfl) (by kernel_rfl) (by decide) (hval 1 22 v1 rfl rfl) h1
  obtain ⟨a2, rfl, rfl, rfl, w2⟩ := open_int Tryd.underlying23 (hval 2 23 v2 rfl rfl) h2
  obtain ⟨a3, rfl, rfl, rfl, w3⟩ := open_int Tryd.underlying23 (hval 3 23 v3 rfl rfl) h3
  obtain ⟨A4, n4, c4, z4, rfl, w4⟩ := ints_arg Tryd.underlying24 Tryd.underlying23 (by kernel_rfl) (hval 4 24 v4 rfl rfl) h4
  refine (walk a0 A1 n1 c1 f1 a2 a3 A4 n4 c4 z4 W w0 w1 w2 w3 w4 (tab_of_laid hL)).mono fun e W' ⟨he, hg⟩ => ?_
  subst he
  exact ⟨_, rfl, hend W' hg⟩

theorem over : Rows.etherHearsRow.holds Tryd.pinned (OpenSpec.ofChange Rows.etherHearsSpec) :=
  OpenClaim.holds_of_wide 3 Tryd.f3 rfl rfl rfl rfl rfl rfl rfl ⟨rfl, rfl, rfl, rfl, rfl⟩ rfl rfl rfl rfl rfl (by kernel_rfl) Tryd.func3 (by kernel_rfl)
    (of_decide_eq_true (by kernel_rfl)) (by unfold Func.isWrapper; first | (rw [if_pos (by decide +kernel)]; kernel_rfl) | (rw [if_neg (by decide +kernel)]; exact ⟨rfl, rfl⟩))
    (fun os started H enc _ => lifted os started H enc)

/-- THE STATEMENT: the tied card -/
theorem proved : Rows.EtherHearsCardSaid :=
  Claim7.holds_tied_plain_at .later [] [.data] true (true, "bc89362d3762e64a700d993b1b79e52b0b191728635cd1a77fe1a5707ff4c3fa") false
    over (fun _ h => by cases h) (by kernel_rfl) (fun _ h => by cases h) etherHears_row_tie rfl ⟨rfl, rfl⟩ (by kernel_rfl) rfl
    (fun f fn hf hfn => by
      obtain rfl : f = 3 := Option.some.inj ((show Tryd.prog.funcNamed "angelus/angeluslaw09.EtherHears" = some 3 by kernel_rfl).symm.trans hf) |>.symm
      obtain rfl : fn = Tryd.f3 := (Option.some.inj (Tryd.func3.symm.trans hfn)).symm
      exact ⟨by kernel_rfl, fun j t ht => by
        rw [Tryd.params3] at ht
        have hm : t ∈ [3, 22, 23, 23, 24] := by simpa using Array.mem_of_getElem? ht
        have hall : ([3, 22, 23, 23, 24].all fun u => !Tryd.prog.wantsStandIn u) = true := by kernel_rfl
        exact (show Tryd.prog.wantsStandIn t = false by simpa using List.all_eq_true.1 hall t hm)⟩)
    (by kernel_rfl)
#print axioms proved
end Go.Proofs.YtgmkmkheknibmaaDoor.etherHears
