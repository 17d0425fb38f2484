/-
  Where just one sends, and nothing is lost, all who are awake, and have a link to it, hear it; and who hears hears one that has a link to it, and sends (up to 64 nodes, 100 links, 100 losses).
  The walk is the prover's own; the frame of the row's step follows the kit's template.
-/
import Derived.Test.YtgmkmkheknibmaaDoorRows
import Derived.Test.YtgmkmkheknibmaaDoorLawKit
import Derived.Test.YtgmkmkheknibmaaDoorCards
import Derived.Test.YtgmkmkheknibmaaDoorTie
import Derived.SevenTiedAt
import Derived.Test.YtgmkmkheknibmaaDoorFlat
import Derived.Test.YtgmkmkheknibmaaDoorEtG
import Derived.Test.YtgmkmkheknibmaaDoorEtH
import Derived.Test.YtgmkmkheknibmaaDoorLkT
import Derived.LoopTactic
import Derived.Deep.QuietTactic
import Derived.BigQuiet
import Derived.Deep.CutRange
import Derived.Deep.CutBlock
namespace Go.Proofs.YtgmkmkheknibmaaDoor.etherOne
open Go.ChangeShapes Go.WideShapes Go.ChangeAt Go.RowKit Go.ChangeMaps Go.WideElems
set_option linter.unusedVariables false

theorem cells1 {W : World} {vs : List Value} (h : Fit W [.int .i64, .int .i64] vs) : ∃ (s0 : Int) (s1 : Int), vs = [.int .i64 s0, .int .i64 s1] ∧ (Lit.int .i64 s0).wf = true ∧ (Lit.int .i64 s1).wf = true := by
  match vs, h.length, h with
  | [y0, y1], _, h =>
    obtain ⟨⟨x0, rfl, h0⟩, ⟨x1, rfl, h1⟩, _⟩ := h
    exact ⟨x0, x1, rfl, h0, h1⟩
theorem own : ownKnob Tryd.prog.godebug = none := by kernel_rfl
set_option linter.unusedSimpArgs false in
set_option maxHeartbeats 4000000 in
set_option maxRecDepth 100000 in
theorem walk (a0 : Int) (A1 : Option Addr) (n1 c1 : Nat) (f1 : Nat → List Value) (a2 : Int) (a3 : Int) (a4 : Int) (A5 : Option Addr) (n5 c5 : Nat) (z5 : List Int) (w : World) (w0 : (Lit.int .i64 a0).wf = true) (w1 : FlatRow w [.int .i64, .int .i64] A1 n1 c1 f1) (w2 : (Lit.int .i64 a2).wf = true) (w3 : (Lit.int .u64 a3).wf = true) (w4 : (Lit.int .u64 a4).wf = true) (w5 : IntRow w .u64 A5 n5 c5 z5) (hT : Tab w) :
    Calls Tryd.prog 4 #[.int .i64 a0, .slice A1 n1 c1, .int .i64 a2, .int .u64 a3, .int .u64 a4, .slice A5 n5 c5] w fun e w' => e = .returned (.bool true) ∧ Below w.heap.size w w' := by
  have HT := Lib.hid hT
  have ht0 := hT.2
  clear hT
  by_cases hneg : a0 < 1
  · go_enter Tryd.func4, Tryd.ntmps4
    go_wp2_with (first
      | ((go_at_call 6; refine (alive_yes _ HT.out).mono ?_; rintro e w1 ⟨rfl, hb1⟩; have HB1 := Lib.hid hb1; clear hb1))
      | ((go_at_call 7; refine (both_any _ (HT.out.below HB1.out HT.out.2) n hn1 hn2 _ n1 c1 _ (HP.out.below HB1.out)).mono ?_; rintro e w2 ⟨g, r, gm, rfl, hrun⟩; obtain ⟨M, hM⟩ : ∃ M, madeM n P n1 = M := ⟨_, rfl⟩; rw [hM] at hrun; have HB2 := Lib.hid (HB1.out.trans (hrun.s.below.mono HB1.out.size)); have hst := bstep hrun (2 ^ x) K hX hK none 0 0 [] (row_nil _ _); rw [show (((2 ^ x : Nat) : Nat) : Int) = (2 : Int) ^ x by simp] at hst; clear hrun hM))
      | ((go_at_call 8; (with_reducible refine hst.mono ?_); rintro e w3 ⟨q, rfl, hq, hr3, hrun3, hb3⟩; have HB3 := Lib.hid (HB2.out.trans (hb3.mono HB2.out.size)); have HE3 := Lib.hid (ERun.mk hrun3 hr3); have hst2 := bstep hrun3 S K hS hK _ n5 c5 _ (HZ.out.below HB3.out); clear hb3 hrun3 hr3 hst hq))
      | ((go_at_call 8; (with_reducible refine hst2.mono ?_); rintro e w4 ⟨q2, rfl, hq, hr4, hrun4, hb4⟩; have HB4 := Lib.hid (HB3.out.trans (hb4.mono HB3.out.size)); have HE4 := Lib.hid (HE3.out.below' hb4); have HR4 := Lib.hid hr4; clear hb4 hrun4 hr4 hst2 hq)))
    go_ret
    exact ⟨rfl, HB1.out⟩
  by_cases hbig : 64 < a0
  · go_enter Tryd.func4, Tryd.ntmps4
    go_wp2_with (first
      | ((go_at_call 6; refine (alive_yes _ HT.out).mono ?_; rintro e w1 ⟨rfl, hb1⟩; have HB1 := Lib.hid hb1; clear hb1))
      | ((go_at_call 7; refine (both_any _ (HT.out.below HB1.out HT.out.2) n hn1 hn2 _ n1 c1 _ (HP.out.below HB1.out)).mono ?_; rintro e w2 ⟨g, r, gm, rfl, hrun⟩; obtain ⟨M, hM⟩ : ∃ M, madeM n P n1 = M := ⟨_, rfl⟩; rw [hM] at hrun; have HB2 := Lib.hid (HB1.out.trans (hrun.s.below.mono HB1.out.size)); have hst := bstep hrun (2 ^ x) K hX hK none 0 0 [] (row_nil _ _); rw [show (((2 ^ x : Nat) : Nat) : Int) = (2 : Int) ^ x by simp] at hst; clear hrun hM))
      | ((go_at_call 8; (with_reducible refine hst.mono ?_); rintro e w3 ⟨q, rfl, hq, hr3, hrun3, hb3⟩; have HB3 := Lib.hid (HB2.out.trans (hb3.mono HB2.out.size)); have HE3 := Lib.hid (ERun.mk hrun3 hr3); have hst2 := bstep hrun3 S K hS hK _ n5 c5 _ (HZ.out.below HB3.out); clear hb3 hrun3 hr3 hst hq))
      | ((go_at_call 8; (with_reducible refine hst2.mono ?_); rintro e w4 ⟨q2, rfl, hq, hr4, hrun4, hb4⟩; have HB4 := Lib.hid (HB3.out.trans (hb4.mono HB3.out.size)); have HE4 := Lib.hid (HE3.out.below' hb4); have HR4 := Lib.hid hr4; clear hb4 hrun4 hr4 hst2 hq)))
    go_ret
    exact ⟨rfl, HB1.out⟩
  by_cases hlong : 100 < n1
  · have d3 : decide (100 < (n1 : Int)) = true := decide_eq_true (by omega)
    go_enter Tryd.func4, Tryd.ntmps4
    go_wp2_with (first
      | ((go_at_call 6; refine (alive_yes _ HT.out).mono ?_; rintro e w1 ⟨rfl, hb1⟩; have HB1 := Lib.hid hb1; clear hb1))
      | ((go_at_call 7; refine (both_any _ (HT.out.below HB1.out HT.out.2) n hn1 hn2 _ n1 c1 _ (HP.out.below HB1.out)).mono ?_; rintro e w2 ⟨g, r, gm, rfl, hrun⟩; obtain ⟨M, hM⟩ : ∃ M, madeM n P n1 = M := ⟨_, rfl⟩; rw [hM] at hrun; have HB2 := Lib.hid (HB1.out.trans (hrun.s.below.mono HB1.out.size)); have hst := bstep hrun (2 ^ x) K hX hK none 0 0 [] (row_nil _ _); rw [show (((2 ^ x : Nat) : Nat) : Int) = (2 : Int) ^ x by simp] at hst; clear hrun hM))
      | ((go_at_call 8; (with_reducible refine hst.mono ?_); rintro e w3 ⟨q, rfl, hq, hr3, hrun3, hb3⟩; have HB3 := Lib.hid (HB2.out.trans (hb3.mono HB2.out.size)); have HE3 := Lib.hid (ERun.mk hrun3 hr3); have hst2 := bstep hrun3 S K hS hK _ n5 c5 _ (HZ.out.below HB3.out); clear hb3 hrun3 hr3 hst hq))
      | ((go_at_call 8; (with_reducible refine hst2.mono ?_); rintro e w4 ⟨q2, rfl, hq, hr4, hrun4, hb4⟩; have HB4 := Lib.hid (HB3.out.trans (hb4.mono HB3.out.size)); have HE4 := Lib.hid (HE3.out.below' hb4); have HR4 := Lib.hid hr4; clear hb4 hrun4 hr4 hst2 hq)))
    go_ret
    exact ⟨rfl, HB1.out⟩
  have d3 : decide (100 < (n1 : Int)) = false := decide_eq_false (by omega)
  by_cases hlong5 : 100 < n5
  · have d4 : decide (100 < (n5 : Int)) = true := decide_eq_true (by omega)
    go_enter Tryd.func4, Tryd.ntmps4
    go_wp2_with (first
      | ((go_at_call 6; refine (alive_yes _ HT.out).mono ?_; rintro e w1 ⟨rfl, hb1⟩; have HB1 := Lib.hid hb1; clear hb1))
      | ((go_at_call 7; refine (both_any _ (HT.out.below HB1.out HT.out.2) n hn1 hn2 _ n1 c1 _ (HP.out.below HB1.out)).mono ?_; rintro e w2 ⟨g, r, gm, rfl, hrun⟩; obtain ⟨M, hM⟩ : ∃ M, madeM n P n1 = M := ⟨_, rfl⟩; rw [hM] at hrun; have HB2 := Lib.hid (HB1.out.trans (hrun.s.below.mono HB1.out.size)); have hst := bstep hrun (2 ^ x) K hX hK none 0 0 [] (row_nil _ _); rw [show (((2 ^ x : Nat) : Nat) : Int) = (2 : Int) ^ x by simp] at hst; clear hrun hM))
      | ((go_at_call 8; (with_reducible refine hst.mono ?_); rintro e w3 ⟨q, rfl, hq, hr3, hrun3, hb3⟩; have HB3 := Lib.hid (HB2.out.trans (hb3.mono HB2.out.size)); have HE3 := Lib.hid (ERun.mk hrun3 hr3); have hst2 := bstep hrun3 S K hS hK _ n5 c5 _ (HZ.out.below HB3.out); clear hb3 hrun3 hr3 hst hq))
      | ((go_at_call 8; (with_reducible refine hst2.mono ?_); rintro e w4 ⟨q2, rfl, hq, hr4, hrun4, hb4⟩; have HB4 := Lib.hid (HB3.out.trans (hb4.mono HB3.out.size)); have HE4 := Lib.hid (HE3.out.below' hb4); have HR4 := Lib.hid hr4; clear hb4 hrun4 hr4 hst2 hq)))
    go_ret
    exact ⟨rfl, HB1.out⟩
  have d4 : decide (100 < (n5 : Int)) = false := decide_eq_false (by omega)
  by_cases hf0 : a2 < 0
  · go_enter Tryd.func4, Tryd.ntmps4
    go_wp2_with (first
      | ((go_at_call 6; refine (alive_yes _ HT.out).mono ?_; rintro e w1 ⟨rfl, hb1⟩; have HB1 := Lib.hid hb1; clear hb1))
      | ((go_at_call 7; refine (both_any _ (HT.out.below HB1.out HT.out.2) n hn1 hn2 _ n1 c1 _ (HP.out.below HB1.out)).mono ?_; rintro e w2 ⟨g, r, gm, rfl, hrun⟩; obtain ⟨M, hM⟩ : ∃ M, madeM n P n1 = M := ⟨_, rfl⟩; rw [hM] at hrun; have HB2 := Lib.hid (HB1.out.trans (hrun.s.below.mono HB1.out.size)); have hst := bstep hrun (2 ^ x) K hX hK none 0 0 [] (row_nil _ _); rw [show (((2 ^ x : Nat) : Nat) : Int) = (2 : Int) ^ x by simp] at hst; clear hrun hM))
      | ((go_at_call 8; (with_reducible refine hst.mono ?_); rintro e w3 ⟨q, rfl, hq, hr3, hrun3, hb3⟩; have HB3 := Lib.hid (HB2.out.trans (hb3.mono HB2.out.size)); have HE3 := Lib.hid (ERun.mk hrun3 hr3); have hst2 := bstep hrun3 S K hS hK _ n5 c5 _ (HZ.out.below HB3.out); clear hb3 hrun3 hr3 hst hq))
      | ((go_at_call 8; (with_reducible refine hst2.mono ?_); rintro e w4 ⟨q2, rfl, hq, hr4, hrun4, hb4⟩; have HB4 := Lib.hid (HB3.out.trans (hb4.mono HB3.out.size)); have HE4 := Lib.hid (HE3.out.below' hb4); have HR4 := Lib.hid hr4; clear hb4 hrun4 hr4 hst2 hq)))
    go_ret
    exact ⟨rfl, HB1.out⟩
  by_cases hf1 : a0 ≤ a2
  · go_enter Tryd.func4, Tryd.ntmps4
    go_wp2_with (first
      | ((go_at_call 6; refine (alive_yes _ HT.out).mono ?_; rintro e w1 ⟨rfl, hb1⟩; have HB1 := Lib.hid hb1; clear hb1))
      | ((go_at_call 7; refine (both_any _ (HT.out.below HB1.out HT.out.2) n hn1 hn2 _ n1 c1 _ (HP.out.below HB1.out)).mono ?_; rintro e w2 ⟨g, r, gm, rfl, hrun⟩; obtain ⟨M, hM⟩ : ∃ M, madeM n P n1 = M := ⟨_, rfl⟩; rw [hM] at hrun; have HB2 := Lib.hid (HB1.out.trans (hrun.s.below.mono HB1.out.size)); have hst := bstep hrun (2 ^ x) K hX hK none 0 0 [] (row_nil _ _); rw [show (((2 ^ x : Nat) : Nat) : Int) = (2 : Int) ^ x by simp] at hst; clear hrun hM))
      | ((go_at_call 8; (with_reducible refine hst.mono ?_); rintro e w3 ⟨q, rfl, hq, hr3, hrun3, hb3⟩; have HB3 := Lib.hid (HB2.out.trans (hb3.mono HB2.out.size)); have HE3 := Lib.hid (ERun.mk hrun3 hr3); have hst2 := bstep hrun3 S K hS hK _ n5 c5 _ (HZ.out.below HB3.out); clear hb3 hrun3 hr3 hst hq))
      | ((go_at_call 8; (with_reducible refine hst2.mono ?_); rintro e w4 ⟨q2, rfl, hq, hr4, hrun4, hb4⟩; have HB4 := Lib.hid (HB3.out.trans (hb4.mono HB3.out.size)); have HE4 := Lib.hid (HE3.out.below' hb4); have HR4 := Lib.hid hr4; clear hb4 hrun4 hr4 hst2 hq)))
    go_ret
    exact ⟨rfl, HB1.out⟩
  obtain ⟨n, rfl⟩ : ∃ n : Nat, a0 = n := ⟨a0.toNat, by omega⟩
  obtain ⟨x, rfl⟩ : ∃ x : Nat, a2 = x := ⟨a2.toNat, by omega⟩
  have hn1 : 1 ≤ n := by omega
  have hn2 : n ≤ 64 := by omega
  have hx : x < n := by omega
  have hx64 : x < 64 := by omega
  have hb3 := bounds_u64 w3
  have hb4 := bounds_u64 w4
  obtain ⟨S, rfl⟩ : ∃ S : Nat, a3 = S := ⟨a3.toNat, by omega⟩
  obtain ⟨K, rfl⟩ : ∃ K : Nat, a4 = K := ⟨a4.toNat, by omega⟩
  have hS : S < 18446744073709551616 := by omega
  have hK : K < 18446744073709551616 := by omega
  have hX : 2 ^ x < 18446744073709551616 := pow_fit hx64
  have d1 : decide ((n : Int) < 1) = false := decide_eq_false (by omega)
  have d2 : decide (64 < (n : Int)) = false := decide_eq_false (by omega)
  have d5 : decide ((x : Int) < 0) = false := decide_eq_false (by omega)
  have d6 : decide ((n : Int) ≤ (x : Int)) = false := decide_eq_false (by omega)
  have hnn : ((n : Int) != (n : Int)) = false := by simp
  have ec : IntKind.u64.wrap (x : Int) = x := by rw [IntKind.wrap_u64]; omega
  have es := shl_fit (k := x) hx64
  have hx0 : (0 : Int) ≤ (x : Int) := Int.natCast_nonneg _
  have hmin : min x 64 = x := by omega
  have HP := Lib.hid (PairRow.of w1)
  have HZ := Lib.hid w5
  obtain ⟨P, hP⟩ : ∃ P : Nat → Int × Int, (fun i => twoOf (f1 i)) = P := ⟨_, rfl⟩
  rw [hP] at HP
  clear w1 w5 w3 w4 hneg hbig hlong hlong5 hb3 hb4 hP hf0 hf1
  go_enter Tryd.func4, Tryd.ntmps4
  go_wp2_with (first
    | ((go_at_call 6; refine (alive_yes _ HT.out).mono ?_; rintro e w1 ⟨rfl, hb1⟩; have HB1 := Lib.hid hb1; clear hb1))
    | ((go_at_call 7; refine (both_any _ (HT.out.below HB1.out HT.out.2) n hn1 hn2 _ n1 c1 _ (HP.out.below HB1.out)).mono ?_; rintro e w2 ⟨g, r, gm, rfl, hrun⟩; obtain ⟨M, hM⟩ : ∃ M, madeM n P n1 = M := ⟨_, rfl⟩; rw [hM] at hrun; have HB2 := Lib.hid (HB1.out.trans (hrun.s.below.mono HB1.out.size)); have hst := bstep hrun (2 ^ x) K hX hK none 0 0 [] (row_nil _ _); rw [show (((2 ^ x : Nat) : Nat) : Int) = (2 : Int) ^ x by simp] at hst; clear hrun hM))
    | ((go_at_call 8; (with_reducible refine hst.mono ?_); rintro e w3 ⟨q, rfl, hq, hr3, hrun3, hb3⟩; have HB3 := Lib.hid (HB2.out.trans (hb3.mono HB2.out.size)); have HE3 := Lib.hid (ERun.mk hrun3 hr3); have hst2 := bstep hrun3 S K hS hK _ n5 c5 _ (HZ.out.below HB3.out); clear hb3 hrun3 hr3 hst hq))
    | ((go_at_call 8; (with_reducible refine hst2.mono ?_); rintro e w4 ⟨q2, rfl, hq, hr4, hrun4, hb4⟩; have HB4 := Lib.hid (HB3.out.trans (hb4.mono HB3.out.size)); have HE4 := Lib.hid (HE3.out.below' hb4); have HR4 := Lib.hid hr4; clear hb4 hrun4 hr4 hst2 hq)))
  have HE := HE4
  have HQ := HR4
  clear HE3 HE4 HR4 HB2 HB3 HB4
  go_loopw [17] (fun i wr => ∃ k : Nat, k ≤ n ∧ i = .int .i64 k ∧ ERun w1 n g r gm M q (earV M (2 ^ x) K []) wr ∧ Holds wr q2 35 (earRow (earV M S K z5) n)) (fun i _ => n - (intOf i).toNat)
  case atStart => exact ⟨0, Nat.zero_le _, rfl, HE.out, HQ.out⟩
  case round =>
    obtain ⟨k, hk, rfl, hrun, hrow⟩ := hrel
    clear HE HQ
    by_cases hlt : k < n
    · have hk64 : k < 64 := by omega
      have hki : (k : Int) < (n : Int) := by omega
      have x1 := hrun.row.cell (k * 2 + 1)
      rw [earRow_why _ hlt, ear_one hx64 (hrun.run.s.net.irr k)] at x1
      have y0 := hrow.cell (k * 2)
      have y1 := hrow.cell (k * 2 + 1)
      rw [earRow_from _ hlt] at y0
      rw [earRow_why _ hlt] at y1
      have ew := IntWalk.i64_in ((k : Int) + 1) (by omega)
      have hasq := fun (nq : Nat) => srun_has (hrun.run.s.below' (below_drewN (Below.refl _ _) nq)) k x hlt hx
      have hinK := fun (W : World) => by
        have := in_any W K hK (k : Int)
        rw [inSet_nat hk64] at this
        exact this
      have hinS := fun (W : World) => by
        have := in_any W S hS (k : Int)
        rw [inSet_nat hk64] at this
        exact this
      have hheard := fun h => ear_heard (M := M) (S := S) (K := K) (i := k) (zs := z5) h
      obtain ⟨F, hF⟩ : ∃ F, (earV M S K z5 k).1 = F := ⟨_, rfl⟩
      obtain ⟨Y, hY⟩ : ∃ Y, (earV M S K z5 k).2 = Y := ⟨_, rfl⟩
      rw [hF] at y0 hheard
      rw [hY] at y1 hheard
      have HHeard := Lib.hid hheard
      have HRn := Lib.hid hrun
      have HRow := Lib.hid hrow
      clear hrun hrow hheard hF hY
      go_upto_region 13 with fail
      go_cut [108] from 73 to 141 (fun c wx => c = .bool false ∧ ∃ nq, wx = wr.drewN nq)
      case first =>
        rcases hadj : adj M k x with _ | _
        · rw [hadj] at hasq x1
          rw [if_neg (show ¬ (false = true) by decide)] at x1
          have x1 : wr.cell? ⟨q, k * 2 + 1, none⟩ = some (.int .i64 0) := x1
          go_quiet (first | (go_at_call 12; exact Calls.quiet_of_same (hasq _)) | (go_at_call 11; exact Calls.quiet_of_same (hinK _)))
          go_wp2
          go_meet
          case rel => exact ⟨rfl, nq, rfl⟩
        · rw [hadj] at hasq x1
          rw [if_pos rfl] at x1
          rcases hk1 : K.testBit k with _ | _
          · rw [hk1] at hinK x1
            have x1 : wr.cell? ⟨q, k * 2 + 1, none⟩ = some (.int .i64 3) := x1
            go_quiet (first | (go_at_call 12; exact Calls.quiet_of_same (hasq _)) | (go_at_call 11; exact Calls.quiet_of_same (hinK _)))
            go_wp2
            go_meet
            case rel => exact ⟨rfl, nq, rfl⟩
          · rw [hk1] at hinK x1
            have x1 : wr.cell? ⟨q, k * 2 + 1, none⟩ = some (.int .i64 1) := x1
            go_quiet (first | (go_at_call 12; exact Calls.quiet_of_same (hasq _)) | (go_at_call 11; exact Calls.quiet_of_same (hinK _)))
            go_wp2
            go_meet
            case rel => exact ⟨rfl, nq, rfl⟩
      case rest =>
        obtain ⟨rfl, nq, rfl⟩ := hcut
        clear hasq hinK x1
        obtain ⟨W1, hW1⟩ : ∃ W1, wr.drewN nq = W1 := ⟨_, rfl⟩
        have hd1 : Below wr.heap.size wr W1 := by rw [← hW1]; exact below_drewN (Below.refl _ _) nq
        have HR1 := Lib.hid (HRn.out.below' hd1)
        have hq1 := HRow.out.below hd1 HRow.out.lt
        have HRow1 := Lib.hid hq1
        have z0 : W1.cell? ⟨q2, k * 2, none⟩ = some (.int .i64 F) := by rw [← hW1]; exact y0
        have z1 : W1.cell? ⟨q2, k * 2 + 1, none⟩ = some (.int .i64 Y) := by rw [← hW1]; exact y1
        rw [hW1]
        clear hd1 hq1 y0 y1
        have hfin : ERun w1 n g r gm M q (earV M (2 ^ x) K []) (W1.alloc (.cells #[.int .i64 F, .int .i64 Y] 35)) ∧ Holds (W1.alloc (.cells #[.int .i64 F, .int .i64 Y] 35)) q2 35 (earRow (earV M S K z5) n) :=
          ⟨HR1.out.below' (below_alloc _ _), HRow1.out.alloc _⟩
        have HFin := Lib.hid hfin
        clear hfin hW1
        by_cases hY1 : Y = 1
        · obtain ⟨j, rfl, hj64, hadj2, hsj, hkk, hsk⟩ := HHeard.out hY1
          subst hY1
          have hjn : j < n := by
            have := HR1.out.run.s.net.lt _ _ hadj2
            rw [HR1.out.run.s.len] at this
            exact this
          have hasq2 := srun_has HFin.out.1.run.s k j hlt hjn
          have hinK2 := fun (W : World) => by
            have := in_any W K hK (k : Int)
            rw [inSet_nat hk64, hkk] at this
            exact this
          have hinS2 := fun (W : World) => by
            have := in_any W S hS (k : Int)
            rw [inSet_nat hk64, hsk] at this
            exact this
          have hinF := fun (W : World) => by
            have := in_any W S hS (j : Int)
            rw [inSet_nat hj64, hsj] at this
            exact this
          rw [hadj2] at hasq2
          clear hinS hsj hkk hsk hadj2
          go_wp2_with (first
            | (go_at_call 12; (with_reducible refine hasq2.mono ?_); rintro e w' ⟨rfl, hw⟩; subst w')
            | (go_at_call 11; (with_reducible refine (hinK2 _).mono ?_); rintro e w' ⟨rfl, hw⟩; subst w')
            | (go_at_call 11; (with_reducible refine (hinF _).mono ?_); rintro e w' ⟨rfl, hw⟩; subst w')
            | (go_at_call 11; (with_reducible refine (hinS2 _).mono ?_); rintro e w' ⟨rfl, hw⟩; subst w'))
          go_roundw
          case rel => exact ⟨k + 1, by omega, by go_num, HFin.out.1, HFin.out.2⟩
          case measure => simp [intOf]; omega
        · have hy1 : (Y == 1) = false := by simp [hY1]
          go_wp2
          go_roundw
          case rel => exact ⟨k + 1, by omega, by go_num, HFin.out.1, HFin.out.2⟩
          case measure => simp [intOf]; omega
    · have HF := Lib.hid (HB1.out.trans (hrun.run.s.below.mono HB1.out.size))
      clear hrun hrow
      go_wp2
      go_ret
      exact ⟨rfl, HF.out⟩

set_option maxRecDepth 100000 in
theorem lifted (os : Os) (started : os.Started) (H : Type) (enc : TypeId × Value → H) :
    ReturnsInHanded {} Tryd.checked os 4 .any (fun w args => (Rows.etherOneSpec.pre enc Tryd.prog Tryd.f4 [] false w args ∧ laidMetH Tryd.prog laidTab w) ∧ sizedMet enc Tryd.prog Tryd.f4 (OpenSpec.ofChange Rows.etherOneSpec) false w args) (Rows.etherOneSpec.post enc Tryd.prog Tryd.f4 false true false false) := by
  refine returnsInHanded_of_change_and (C := Tryd.checked) (X := fun w _ => laidMetH Tryd.prog laidTab w) (fun _ _ _ hh h => h.of_heap hh) own started (by kernel_rfl) Tryd.func4
    (ChangeSpec.witness_shaped (enc := enc) (C := Tryd.checked) (os := os) (X := fun w _ => laidMetH Tryd.prog laidTab w) false (World.doorLaid Tryd.prog 14 os) #[.int .i64 0, .slice none 0 0, .int .i64 0, .int .u64 0, .int .u64 0, .slice none 0 0] 8 rfl (World.shaped_of_RefB (by kernel_rfl) (by kernel_rfl)) (by kernel_rfl) (by kernel_rfl) (by kernel_rfl) (door_met os _)) ?_
  intro W base args ds gs before hval0 hW _ _ hL _
  have hval : ∀ (j : Nat) t v, Tryd.f4.params[j]? = some t → args[j]? = some v → Value.okWide Tryd.prog W .any base t v := hval0
  have hW' := hW
  obtain ⟨p, q, hA0, hV, rfl, hfz, hnd⟩ := hW
  have hA : DataW.TrodAll enc Tryd.prog W 0 (fun _ => true) true Tryd.f4.params.toList args.toList ds p := hA0
  have hAk := hA
  rw [Tryd.params4] at hA hval
  obtain ⟨v0, vs0, d0, ds0, p0, q0, hargs, rfl, hp, h0, r0⟩ := trodAll_cons hA
  obtain ⟨v1, vs1, d1, ds1, p1, q1, rfl, rfl, rfl, h1, r1⟩ := trodAll_cons r0
  obtain ⟨v2, vs2, d2, ds2, p2, q2, rfl, rfl, rfl, h2, r2⟩ := trodAll_cons r1
  obtain ⟨v3, vs3, d3, ds3, p3, q3, rfl, rfl, rfl, h3, r3⟩ := trodAll_cons r2
  obtain ⟨v4, vs4, d4, ds4, p4, q4, rfl, rfl, rfl, h4, r4⟩ := trodAll_cons r3
  obtain ⟨v5, vs5, d5, ds5, p5, q5, rfl, rfl, rfl, h5, r5⟩ := trodAll_cons r4
  obtain ⟨rfl, rfl, rfl⟩ := trodAll_nil r5
  obtain rfl : args = #[v0, v1, v2, v3, v4, v5] := by cases args; simp_all
  obtain ⟨rfl, rfl⟩ := trodVars_none hV
  clear hA0 hval0 hargs
  simp only [List.append_nil] at hW'
  have hend : ∀ W' : World, Below W.heap.size W W' → Rows.etherOneSpec.post enc Tryd.prog Tryd.f4 false true false false W #[v0, v1, v2, v3, v4, v5] (.bool true) W' := fun W' hb =>
    law_post (tb := 4) hW' hAk rfl (by kernel_rfl) (by kernel_rfl) (by kernel_rfl) Tryd.underlying4 rfl rfl rfl hb
  clear hW' hAk hp
  obtain ⟨a0, rfl, rfl, rfl, w0⟩ := open_int Tryd.underlying3 (hval 0 3 v0 rfl rfl) h0
  obtain ⟨A1, n1, c1, f1, rfl, w1⟩ := flats_arg (ks := [.int .i64, .int .i64]) 9 Tryd.underlying22 (by kernel_rfl) (by kernel_rfl) (by decide) (hval 1 22 v1 rfl rfl) h1
  obtain ⟨a2, rfl, rfl, rfl, w2⟩ := open_int Tryd.underlying3 (hval 2 3 v2 rfl rfl) h2
  obtain ⟨a3, rfl, rfl, rfl, w3⟩ := open_int Tryd.underlying23 (hval 3 23 v3 rfl rfl) h3
  obtain ⟨a4, rfl, rfl, rfl, w4⟩ := open_int Tryd.underlying23 (hval 4 23 v4 rfl rfl) h4
  obtain ⟨A5, n5, c5, z5, rfl, w5⟩ := ints_arg Tryd.underlying24 Tryd.underlying23 (by kernel_rfl) (hval 5 24 v5 rfl rfl) h5
  refine (walk a0 A1 n1 c1 f1 a2 a3 a4 A5 n5 c5 z5 W w0 w1 w2 w3 w4 w5 (tab_of_laid hL)).mono fun e W' ⟨he, hg⟩ => ?_
  subst he
  exact ⟨_, rfl, hend W' hg⟩

theorem over : Rows.etherOneRow.holds Tryd.pinned (OpenSpec.ofChange Rows.etherOneSpec) :=
  OpenClaim.holds_of_wide 4 Tryd.f4 rfl rfl rfl rfl rfl rfl rfl ⟨rfl, rfl, rfl, rfl, rfl⟩ rfl rfl rfl rfl rfl (by kernel_rfl) Tryd.func4 (by kernel_rfl)
    (of_decide_eq_true (by kernel_rfl)) (by unfold Func.isWrapper; first | (rw [if_pos (by decide +kernel)]; kernel_rfl) | (rw [if_neg (by decide +kernel)]; exact ⟨rfl, rfl⟩))
    (fun os started H enc _ => lifted os started H enc)

/-- THE STATEMENT: the tied card -/
theorem proved : Rows.EtherOneCardSaid :=
  Claim7.holds_tied_plain_at .later [] [.data] true (true, "bc89362d3762e64a700d993b1b79e52b0b191728635cd1a77fe1a5707ff4c3fa") false
    over (fun _ h => by cases h) (by kernel_rfl) (fun _ h => by cases h) etherOne_row_tie rfl ⟨rfl, rfl⟩ (by kernel_rfl) rfl
    (fun f fn hf hfn => by
      obtain rfl : f = 4 := Option.some.inj ((show Tryd.prog.funcNamed "angelus/angeluslaw09.EtherOne" = some 4 by kernel_rfl).symm.trans hf) |>.symm
      obtain rfl : fn = Tryd.f4 := (Option.some.inj (Tryd.func4.symm.trans hfn)).symm
      exact ⟨by kernel_rfl, fun j t ht => by
        rw [Tryd.params4] at ht
        have hm : t ∈ [3, 22, 3, 23, 23, 24] := by simpa using Array.mem_of_getElem? ht
        have hall : ([3, 22, 3, 23, 23, 24].all fun u => !Tryd.prog.wantsStandIn u) = true := by kernel_rfl
        exact (show Tryd.prog.wantsStandIn t = false by simpa using List.all_eq_true.1 hall t hm)⟩)
    (by kernel_rfl)
#print axioms proved
end Go.Proofs.YtgmkmkheknibmaaDoor.etherOne
