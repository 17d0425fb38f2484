/-
  Who is awake with one guard is with a greater one, and within a round's steps just one is a node's own: for every plan, step, time and guards the law answers true; without conditions.
  The walk is the prover's own; the frame of the row's step follows the kit's template.
-/
import Derived.Test.YthkpalfpohhmoaaRows
import Derived.Test.YthkpalfpohhmoaaLawKit
import Derived.Test.YthkpalfpohhmoaaStructArg
import Derived.Test.YthkpalfpohhmoaaDtD
import Derived.Test.YthkpalfpohhmoaaDtE
import Derived.IntWalk
import Derived.LoopTactic
import Derived.Deep.CutBlock
import Derived.Deep.CutRange
namespace Go.Proofs.Ythkpalfpohhmoaa.dutyGuards
open Go.ChangeShapes Go.WideShapes Go.ChangeAt Go.RowKit Go.ChangeMaps Go.WideElems
set_option linter.unusedVariables false

theorem split3 {ns : List Int} (h : ns.length = 3) : ∃ s0_0 s0_1 s0_2 : Int, ns = [s0_0, s0_1, s0_2] := by
  match ns, h with
  | [y0, y1, y2], _ => exact ⟨_, _, _, rfl⟩
theorem own : ownKnob Try.prog.godebug = none := by kernel_rfl
/-- How many of a round's first k steps were the own one. -/
def ownN (r n s : Int) (k : Nat) : Int := if ownAt r n s < k then 1 else 0
theorem ownN_zero {r o n : Int} (h : Can r o n) (s : Int) : ownN r n s 0 = 0 := by
  have := (own_bd h s).1
  unfold ownN
  rw [if_neg (by omega)]
theorem ownN_bd (r n s : Int) (k : Nat) : 0 ≤ ownN r n s k ∧ ownN r n s k ≤ 1 := by unfold ownN; split <;> omega
theorem ownN_yes {r n s : Int} {k : Nat} (e : (k : Int) = ownAt r n s) : ownN r n s k = 0 ∧ ownN r n s (k + 1) = 1 := by
  unfold ownN
  rw [if_neg (by omega), if_pos (by omega)]
  exact ⟨rfl, rfl⟩
theorem ownN_no {r n s : Int} {k : Nat} (e : ¬ (k : Int) = ownAt r n s) : ownN r n s k = ownN r n s (k + 1) := by
  unfold ownN
  by_cases q : ownAt r n s < k
  · rw [if_pos q, if_pos (by omega)]
  · rw [if_neg q, if_neg (by omega)]
theorem ownN_all {r o n : Int} (h : Can r o n) (s : Int) {k : Nat} (hk : r ≤ k) : ownN r n s k = 1 := by
  have := (own_bd h s).2
  unfold ownN
  rw [if_pos (by omega)]
/-- A greater guard. -/
theorem awake_more {r o : Int} (t : Int) {a b : Int} (ha : 0 ≤ a) (hab : a ≤ b) (hh : awakeB r o t a = true) : awakeB r o t b = true := by
  unfold awakeB at *
  have := of_decide_eq_true hh
  exact decide_eq_true (by omega)
set_option linter.unusedSimpArgs false
set_option maxHeartbeats 4000000 in
set_option maxRecDepth 100000 in
theorem walk (s0_0 s0_1 s0_2 : Int) (a1 : Int) (a2 : Int) (a3 : Int) (a4 : Int) (w : World) (w0_0 : (Lit.int .i64 s0_0).wf = true) (w0_1 : (Lit.int .i64 s0_1).wf = true) (w0_2 : (Lit.int .i64 s0_2).wf = true) (w1 : (Lit.int .i64 a1).wf = true) (w2 : (Lit.int .i64 a2).wf = true) (w3 : (Lit.int .i64 a3).wf = true) (w4 : (Lit.int .i64 a4).wf = true) :
    Calls Try.prog 4 #[.agg #[.int .i64 s0_0, .int .i64 s0_1, .int .i64 s0_2], .int .i64 a1, .int .i64 a2, .int .i64 a3, .int .i64 a4] w fun e w' => e = .returned (.bool true) ∧ Below w.heap.size w w' := by
  have HB := Lib.hid (Box.start w 23 #[.int .i64 s0_0, .int .i64 s0_1, .int .i64 s0_2])
  obtain ⟨c0, c1, c2, _⟩ := HB.out.cells3
  have hs := fits_wf w1
  have ht := fits_wf w2
  have ha := fits_wf w3
  have hb0 := fits_wf w4
  have hs' := hs
  obtain ⟨s1, s2⟩ := hs'
  by_cases hc : ¬ Can s0_0 s0_1 s0_2
  · by_cases g0 : 0 ≤ a3
    · by_cases g1 : a3 ≤ a4
      · go_enter Try.func4, Try.ntmps4
        go_wp2_with (first
          | (go_at_call 7; refine (alive_yes _).mono ?_; rintro e wx ⟨rfl, hb⟩; replace HB := Lib.hid (HB.out.next hb); obtain ⟨c0, c1, c2, _⟩ := HB.out.cells3; clear hb)
          | (go_at_call 9; refine (good_yes _ _ _ _ hc).mono ?_; rintro e wx ⟨rfl, hb⟩; replace HB := Lib.hid (HB.out.next hb); obtain ⟨c0, c1, c2, _⟩ := HB.out.cells3; clear hb)
          | (go_at_call 9; refine (good_no _ _ _ _ hc).mono ?_; rintro e wx ⟨rfl, hb⟩; replace HB := Lib.hid (HB.out.next hb); obtain ⟨c0, c1, c2, _⟩ := HB.out.cells3; clear hb)
          | (go_at_call 10; refine (awake_any _ _ _ _ _ _ hc ht ‹_›).mono ?_; rintro e wx ⟨rfl, hb⟩; replace HB := Lib.hid (HB.out.next hb); obtain ⟨c0, c1, c2, _⟩ := HB.out.cells3; clear hb)
          | (go_at_call 10; refine (awake_bad _ _ _ _ _ _ hc).mono ?_; rintro e wx ⟨rfl, hb⟩; replace HB := Lib.hid (HB.out.next hb); obtain ⟨c0, c1, c2, _⟩ := HB.out.cells3; clear hb)
          | (go_at_call 12; refine (mine_any _ _ _ _ _ hc ⟨by omega, by omega⟩).mono ?_; rintro e wx ⟨rfl, hb⟩; replace HB := Lib.hid (HB.out.next hb); obtain ⟨c0, c1, c2, _⟩ := HB.out.cells3; clear hb))
        go_ret
        exact ⟨rfl, HB.out.below⟩
      · have d1 : decide (a3 ≤ a4) = false := decide_eq_false g1
        go_enter Try.func4, Try.ntmps4
        go_wp2_with (first
          | (go_at_call 7; refine (alive_yes _).mono ?_; rintro e wx ⟨rfl, hb⟩; replace HB := Lib.hid (HB.out.next hb); obtain ⟨c0, c1, c2, _⟩ := HB.out.cells3; clear hb)
          | (go_at_call 9; refine (good_yes _ _ _ _ hc).mono ?_; rintro e wx ⟨rfl, hb⟩; replace HB := Lib.hid (HB.out.next hb); obtain ⟨c0, c1, c2, _⟩ := HB.out.cells3; clear hb)
          | (go_at_call 9; refine (good_no _ _ _ _ hc).mono ?_; rintro e wx ⟨rfl, hb⟩; replace HB := Lib.hid (HB.out.next hb); obtain ⟨c0, c1, c2, _⟩ := HB.out.cells3; clear hb)
          | (go_at_call 10; refine (awake_any _ _ _ _ _ _ hc ht ‹_›).mono ?_; rintro e wx ⟨rfl, hb⟩; replace HB := Lib.hid (HB.out.next hb); obtain ⟨c0, c1, c2, _⟩ := HB.out.cells3; clear hb)
          | (go_at_call 10; refine (awake_bad _ _ _ _ _ _ hc).mono ?_; rintro e wx ⟨rfl, hb⟩; replace HB := Lib.hid (HB.out.next hb); obtain ⟨c0, c1, c2, _⟩ := HB.out.cells3; clear hb)
          | (go_at_call 12; refine (mine_any _ _ _ _ _ hc ⟨by omega, by omega⟩).mono ?_; rintro e wx ⟨rfl, hb⟩; replace HB := Lib.hid (HB.out.next hb); obtain ⟨c0, c1, c2, _⟩ := HB.out.cells3; clear hb))
        go_ret
        exact ⟨rfl, HB.out.below⟩
    · have d1 : decide (0 ≤ a3) = false := decide_eq_false g0
      go_enter Try.func4, Try.ntmps4
      go_wp2_with (first
        | (go_at_call 7; refine (alive_yes _).mono ?_; rintro e wx ⟨rfl, hb⟩; replace HB := Lib.hid (HB.out.next hb); obtain ⟨c0, c1, c2, _⟩ := HB.out.cells3; clear hb)
        | (go_at_call 9; refine (good_yes _ _ _ _ hc).mono ?_; rintro e wx ⟨rfl, hb⟩; replace HB := Lib.hid (HB.out.next hb); obtain ⟨c0, c1, c2, _⟩ := HB.out.cells3; clear hb)
        | (go_at_call 9; refine (good_no _ _ _ _ hc).mono ?_; rintro e wx ⟨rfl, hb⟩; replace HB := Lib.hid (HB.out.next hb); obtain ⟨c0, c1, c2, _⟩ := HB.out.cells3; clear hb)
        | (go_at_call 10; refine (awake_any _ _ _ _ _ _ hc ht ‹_›).mono ?_; rintro e wx ⟨rfl, hb⟩; replace HB := Lib.hid (HB.out.next hb); obtain ⟨c0, c1, c2, _⟩ := HB.out.cells3; clear hb)
        | (go_at_call 10; refine (awake_bad _ _ _ _ _ _ hc).mono ?_; rintro e wx ⟨rfl, hb⟩; replace HB := Lib.hid (HB.out.next hb); obtain ⟨c0, c1, c2, _⟩ := HB.out.cells3; clear hb)
        | (go_at_call 12; refine (mine_any _ _ _ _ _ hc ⟨by omega, by omega⟩).mono ?_; rintro e wx ⟨rfl, hb⟩; replace HB := Lib.hid (HB.out.next hb); obtain ⟨c0, c1, c2, _⟩ := HB.out.cells3; clear hb))
      go_ret
      exact ⟨rfl, HB.out.below⟩
  replace hc := Classical.not_not.1 hc
  go_enter Try.func4, Try.ntmps4
  go_upto_region 3 with (first
    | (go_at_call 7; refine (alive_yes _).mono ?_; rintro e wx ⟨rfl, hb⟩; replace HB := Lib.hid (HB.out.next hb); obtain ⟨c0, c1, c2, _⟩ := HB.out.cells3; clear hb))
  go_cut [34] from 15 to 34 (fun c wx => c = .bool false ∧ Box w 23 #[.int .i64 s0_0, .int .i64 s0_1, .int .i64 s0_2] wx)
  case first =>
    by_cases g0 : 0 ≤ a3
    · by_cases g1 : a3 ≤ a4
      · have hm := awake_more (r := s0_0) (o := s0_1) a2 g0 g1
        cases hA : awakeB s0_0 s0_1 a2 a3 with
        | false =>
          clear hm
          go_wp2_with (first
            | (go_at_call 7; refine (alive_yes _).mono ?_; rintro e wx ⟨rfl, hb⟩; replace HB := Lib.hid (HB.out.next hb); obtain ⟨c0, c1, c2, _⟩ := HB.out.cells3; clear hb)
            | (go_at_call 9; refine (good_yes _ _ _ _ hc).mono ?_; rintro e wx ⟨rfl, hb⟩; replace HB := Lib.hid (HB.out.next hb); obtain ⟨c0, c1, c2, _⟩ := HB.out.cells3; clear hb)
            | (go_at_call 9; refine (good_no _ _ _ _ hc).mono ?_; rintro e wx ⟨rfl, hb⟩; replace HB := Lib.hid (HB.out.next hb); obtain ⟨c0, c1, c2, _⟩ := HB.out.cells3; clear hb)
            | (go_at_call 10; refine (awake_any _ _ _ _ _ _ hc ht ‹_›).mono ?_; rintro e wx ⟨rfl, hb⟩; replace HB := Lib.hid (HB.out.next hb); obtain ⟨c0, c1, c2, _⟩ := HB.out.cells3; clear hb)
            | (go_at_call 10; refine (awake_bad _ _ _ _ _ _ hc).mono ?_; rintro e wx ⟨rfl, hb⟩; replace HB := Lib.hid (HB.out.next hb); obtain ⟨c0, c1, c2, _⟩ := HB.out.cells3; clear hb)
            | (go_at_call 12; refine (mine_any _ _ _ _ _ hc ⟨by omega, by omega⟩).mono ?_; rintro e wx ⟨rfl, hb⟩; replace HB := Lib.hid (HB.out.next hb); obtain ⟨c0, c1, c2, _⟩ := HB.out.cells3; clear hb))
          go_meet
          case rel => exact ⟨rfl, HB.out⟩
        | true =>
          have hD := hm hA
          clear hm
          go_wp2_with (first
            | (go_at_call 7; refine (alive_yes _).mono ?_; rintro e wx ⟨rfl, hb⟩; replace HB := Lib.hid (HB.out.next hb); obtain ⟨c0, c1, c2, _⟩ := HB.out.cells3; clear hb)
            | (go_at_call 9; refine (good_yes _ _ _ _ hc).mono ?_; rintro e wx ⟨rfl, hb⟩; replace HB := Lib.hid (HB.out.next hb); obtain ⟨c0, c1, c2, _⟩ := HB.out.cells3; clear hb)
            | (go_at_call 9; refine (good_no _ _ _ _ hc).mono ?_; rintro e wx ⟨rfl, hb⟩; replace HB := Lib.hid (HB.out.next hb); obtain ⟨c0, c1, c2, _⟩ := HB.out.cells3; clear hb)
            | (go_at_call 10; refine (awake_any _ _ _ _ _ _ hc ht ‹_›).mono ?_; rintro e wx ⟨rfl, hb⟩; replace HB := Lib.hid (HB.out.next hb); obtain ⟨c0, c1, c2, _⟩ := HB.out.cells3; clear hb)
            | (go_at_call 10; refine (awake_bad _ _ _ _ _ _ hc).mono ?_; rintro e wx ⟨rfl, hb⟩; replace HB := Lib.hid (HB.out.next hb); obtain ⟨c0, c1, c2, _⟩ := HB.out.cells3; clear hb)
            | (go_at_call 12; refine (mine_any _ _ _ _ _ hc ⟨by omega, by omega⟩).mono ?_; rintro e wx ⟨rfl, hb⟩; replace HB := Lib.hid (HB.out.next hb); obtain ⟨c0, c1, c2, _⟩ := HB.out.cells3; clear hb))
          go_meet
          case rel => exact ⟨rfl, HB.out⟩
      · have d1 : decide (a3 ≤ a4) = false := decide_eq_false g1
        go_wp2_with (first
          | (go_at_call 7; refine (alive_yes _).mono ?_; rintro e wx ⟨rfl, hb⟩; replace HB := Lib.hid (HB.out.next hb); obtain ⟨c0, c1, c2, _⟩ := HB.out.cells3; clear hb)
          | (go_at_call 9; refine (good_yes _ _ _ _ hc).mono ?_; rintro e wx ⟨rfl, hb⟩; replace HB := Lib.hid (HB.out.next hb); obtain ⟨c0, c1, c2, _⟩ := HB.out.cells3; clear hb)
          | (go_at_call 9; refine (good_no _ _ _ _ hc).mono ?_; rintro e wx ⟨rfl, hb⟩; replace HB := Lib.hid (HB.out.next hb); obtain ⟨c0, c1, c2, _⟩ := HB.out.cells3; clear hb)
          | (go_at_call 10; refine (awake_any _ _ _ _ _ _ hc ht ‹_›).mono ?_; rintro e wx ⟨rfl, hb⟩; replace HB := Lib.hid (HB.out.next hb); obtain ⟨c0, c1, c2, _⟩ := HB.out.cells3; clear hb)
          | (go_at_call 10; refine (awake_bad _ _ _ _ _ _ hc).mono ?_; rintro e wx ⟨rfl, hb⟩; replace HB := Lib.hid (HB.out.next hb); obtain ⟨c0, c1, c2, _⟩ := HB.out.cells3; clear hb)
          | (go_at_call 12; refine (mine_any _ _ _ _ _ hc ⟨by omega, by omega⟩).mono ?_; rintro e wx ⟨rfl, hb⟩; replace HB := Lib.hid (HB.out.next hb); obtain ⟨c0, c1, c2, _⟩ := HB.out.cells3; clear hb))
        go_meet
        case rel => exact ⟨rfl, HB.out⟩
    · have d1 : decide (0 ≤ a3) = false := decide_eq_false g0
      go_wp2_with (first
        | (go_at_call 7; refine (alive_yes _).mono ?_; rintro e wx ⟨rfl, hb⟩; replace HB := Lib.hid (HB.out.next hb); obtain ⟨c0, c1, c2, _⟩ := HB.out.cells3; clear hb)
        | (go_at_call 9; refine (good_yes _ _ _ _ hc).mono ?_; rintro e wx ⟨rfl, hb⟩; replace HB := Lib.hid (HB.out.next hb); obtain ⟨c0, c1, c2, _⟩ := HB.out.cells3; clear hb)
        | (go_at_call 9; refine (good_no _ _ _ _ hc).mono ?_; rintro e wx ⟨rfl, hb⟩; replace HB := Lib.hid (HB.out.next hb); obtain ⟨c0, c1, c2, _⟩ := HB.out.cells3; clear hb)
        | (go_at_call 10; refine (awake_any _ _ _ _ _ _ hc ht ‹_›).mono ?_; rintro e wx ⟨rfl, hb⟩; replace HB := Lib.hid (HB.out.next hb); obtain ⟨c0, c1, c2, _⟩ := HB.out.cells3; clear hb)
        | (go_at_call 10; refine (awake_bad _ _ _ _ _ _ hc).mono ?_; rintro e wx ⟨rfl, hb⟩; replace HB := Lib.hid (HB.out.next hb); obtain ⟨c0, c1, c2, _⟩ := HB.out.cells3; clear hb)
        | (go_at_call 12; refine (mine_any _ _ _ _ _ hc ⟨by omega, by omega⟩).mono ?_; rintro e wx ⟨rfl, hb⟩; replace HB := Lib.hid (HB.out.next hb); obtain ⟨c0, c1, c2, _⟩ := HB.out.cells3; clear hb))
      go_meet
      case rel => exact ⟨rfl, HB.out⟩
  case rest =>
    obtain ⟨rfl, hB⟩ := hcut
    clear c0 c1 c2 HB
    have HB := Lib.hid hB
    obtain ⟨c0, c1, c2, _⟩ := hB.cells3
    clear hB
    by_cases h0 : a1 < 0
    · go_wp2_with (first
        | (go_at_call 7; refine (alive_yes _).mono ?_; rintro e wx ⟨rfl, hb⟩; replace HB := Lib.hid (HB.out.next hb); obtain ⟨c0, c1, c2, _⟩ := HB.out.cells3; clear hb)
        | (go_at_call 9; refine (good_yes _ _ _ _ hc).mono ?_; rintro e wx ⟨rfl, hb⟩; replace HB := Lib.hid (HB.out.next hb); obtain ⟨c0, c1, c2, _⟩ := HB.out.cells3; clear hb)
        | (go_at_call 9; refine (good_no _ _ _ _ hc).mono ?_; rintro e wx ⟨rfl, hb⟩; replace HB := Lib.hid (HB.out.next hb); obtain ⟨c0, c1, c2, _⟩ := HB.out.cells3; clear hb)
        | (go_at_call 10; refine (awake_any _ _ _ _ _ _ hc ht ‹_›).mono ?_; rintro e wx ⟨rfl, hb⟩; replace HB := Lib.hid (HB.out.next hb); obtain ⟨c0, c1, c2, _⟩ := HB.out.cells3; clear hb)
        | (go_at_call 10; refine (awake_bad _ _ _ _ _ _ hc).mono ?_; rintro e wx ⟨rfl, hb⟩; replace HB := Lib.hid (HB.out.next hb); obtain ⟨c0, c1, c2, _⟩ := HB.out.cells3; clear hb)
        | (go_at_call 12; refine (mine_any _ _ _ _ _ hc ⟨by omega, by omega⟩).mono ?_; rintro e wx ⟨rfl, hb⟩; replace HB := Lib.hid (HB.out.next hb); obtain ⟨c0, c1, c2, _⟩ := HB.out.cells3; clear hb))
      go_ret
      exact ⟨rfl, HB.out.below⟩
    have d0 : decide (a1 < 0) = false := decide_eq_false h0
    by_cases h1 : 1125899906842624 < a1
    · go_wp2_with (first
        | (go_at_call 7; refine (alive_yes _).mono ?_; rintro e wx ⟨rfl, hb⟩; replace HB := Lib.hid (HB.out.next hb); obtain ⟨c0, c1, c2, _⟩ := HB.out.cells3; clear hb)
        | (go_at_call 9; refine (good_yes _ _ _ _ hc).mono ?_; rintro e wx ⟨rfl, hb⟩; replace HB := Lib.hid (HB.out.next hb); obtain ⟨c0, c1, c2, _⟩ := HB.out.cells3; clear hb)
        | (go_at_call 9; refine (good_no _ _ _ _ hc).mono ?_; rintro e wx ⟨rfl, hb⟩; replace HB := Lib.hid (HB.out.next hb); obtain ⟨c0, c1, c2, _⟩ := HB.out.cells3; clear hb)
        | (go_at_call 10; refine (awake_any _ _ _ _ _ _ hc ht ‹_›).mono ?_; rintro e wx ⟨rfl, hb⟩; replace HB := Lib.hid (HB.out.next hb); obtain ⟨c0, c1, c2, _⟩ := HB.out.cells3; clear hb)
        | (go_at_call 10; refine (awake_bad _ _ _ _ _ _ hc).mono ?_; rintro e wx ⟨rfl, hb⟩; replace HB := Lib.hid (HB.out.next hb); obtain ⟨c0, c1, c2, _⟩ := HB.out.cells3; clear hb)
        | (go_at_call 12; refine (mine_any _ _ _ _ _ hc ⟨by omega, by omega⟩).mono ?_; rintro e wx ⟨rfl, hb⟩; replace HB := Lib.hid (HB.out.next hb); obtain ⟨c0, c1, c2, _⟩ := HB.out.cells3; clear hb))
      go_ret
      exact ⟨rfl, HB.out.below⟩
    have d1 : decide (1125899906842624 < a1) = false := decide_eq_false h1
    go_wp2_with (first
      | (go_at_call 7; refine (alive_yes _).mono ?_; rintro e wx ⟨rfl, hb⟩; replace HB := Lib.hid (HB.out.next hb); obtain ⟨c0, c1, c2, _⟩ := HB.out.cells3; clear hb)
      | (go_at_call 9; refine (good_yes _ _ _ _ hc).mono ?_; rintro e wx ⟨rfl, hb⟩; replace HB := Lib.hid (HB.out.next hb); obtain ⟨c0, c1, c2, _⟩ := HB.out.cells3; clear hb)
      | (go_at_call 9; refine (good_no _ _ _ _ hc).mono ?_; rintro e wx ⟨rfl, hb⟩; replace HB := Lib.hid (HB.out.next hb); obtain ⟨c0, c1, c2, _⟩ := HB.out.cells3; clear hb)
      | (go_at_call 10; refine (awake_any _ _ _ _ _ _ hc ht ‹_›).mono ?_; rintro e wx ⟨rfl, hb⟩; replace HB := Lib.hid (HB.out.next hb); obtain ⟨c0, c1, c2, _⟩ := HB.out.cells3; clear hb)
      | (go_at_call 10; refine (awake_bad _ _ _ _ _ _ hc).mono ?_; rintro e wx ⟨rfl, hb⟩; replace HB := Lib.hid (HB.out.next hb); obtain ⟨c0, c1, c2, _⟩ := HB.out.cells3; clear hb)
      | (go_at_call 12; refine (mine_any _ _ _ _ _ hc ⟨by omega, by omega⟩).mono ?_; rintro e wx ⟨rfl, hb⟩; replace HB := Lib.hid (HB.out.next hb); obtain ⟨c0, c1, c2, _⟩ := HB.out.cells3; clear hb))
    go_loopw [11, 12] (fun n k wr => ∃ j : Nat, (j : Int) ≤ s0_0 ∧ k = .int .i64 (j : Int) ∧ n = .int .i64 (ownN s0_0 s0_2 a1 j) ∧ Box w 23 #[.int .i64 s0_0, .int .i64 s0_1, .int .i64 s0_2] wr) (fun _ k _ => s0_0.toNat - (intOf k).toNat)
    case atStart => exact ⟨0, by have := hc.r1; omega, rfl, by rw [ownN_zero hc], HB.out⟩
    case round =>
      obtain ⟨j, hj, rfl, rfl, hB⟩ := hrel
      clear c0 c1 c2 HB
      have HB := Lib.hid hB
      obtain ⟨c0, c1, c2, _⟩ := hB.cells3
      clear hB
      have hk := hc
      obtain ⟨k1, k2, k3, k4, k5, k6⟩ := hk
      have hbd := ownN_bd s0_0 s0_2 a1 j
      by_cases hlt : (j : Int) < s0_0
      · have hm := mine_own hc (s := a1) (k := (j : Int)) (by omega) (by omega) hlt
        by_cases e : (j : Int) = ownAt s0_0 s0_2 a1
        · rw [decide_eq_true e] at hm
          obtain ⟨n0, n1⟩ := ownN_yes e
          have N1 := Lib.hid n1
          clear e n1 hbd
          go_wp2_with (first
            | (go_at_call 7; refine (alive_yes _).mono ?_; rintro e wx ⟨rfl, hb⟩; replace HB := Lib.hid (HB.out.next hb); obtain ⟨c0, c1, c2, _⟩ := HB.out.cells3; clear hb)
            | (go_at_call 9; refine (good_yes _ _ _ _ hc).mono ?_; rintro e wx ⟨rfl, hb⟩; replace HB := Lib.hid (HB.out.next hb); obtain ⟨c0, c1, c2, _⟩ := HB.out.cells3; clear hb)
            | (go_at_call 9; refine (good_no _ _ _ _ hc).mono ?_; rintro e wx ⟨rfl, hb⟩; replace HB := Lib.hid (HB.out.next hb); obtain ⟨c0, c1, c2, _⟩ := HB.out.cells3; clear hb)
            | (go_at_call 10; refine (awake_any _ _ _ _ _ _ hc ht ‹_›).mono ?_; rintro e wx ⟨rfl, hb⟩; replace HB := Lib.hid (HB.out.next hb); obtain ⟨c0, c1, c2, _⟩ := HB.out.cells3; clear hb)
            | (go_at_call 10; refine (awake_bad _ _ _ _ _ _ hc).mono ?_; rintro e wx ⟨rfl, hb⟩; replace HB := Lib.hid (HB.out.next hb); obtain ⟨c0, c1, c2, _⟩ := HB.out.cells3; clear hb)
            | (go_at_call 12; refine (mine_any _ _ _ _ _ hc ⟨by omega, by omega⟩).mono ?_; rintro e wx ⟨rfl, hb⟩; replace HB := Lib.hid (HB.out.next hb); obtain ⟨c0, c1, c2, _⟩ := HB.out.cells3; clear hb))
          go_roundw
          case rel => exact ⟨j + 1, by omega, by go_num, by rw [N1.out], HB.out⟩
          case measure => simp [intOf]; omega
        · rw [decide_eq_false e] at hm
          have N1 := Lib.hid (ownN_no e)
          clear e
          go_wp2_with (first
            | (go_at_call 7; refine (alive_yes _).mono ?_; rintro e wx ⟨rfl, hb⟩; replace HB := Lib.hid (HB.out.next hb); obtain ⟨c0, c1, c2, _⟩ := HB.out.cells3; clear hb)
            | (go_at_call 9; refine (good_yes _ _ _ _ hc).mono ?_; rintro e wx ⟨rfl, hb⟩; replace HB := Lib.hid (HB.out.next hb); obtain ⟨c0, c1, c2, _⟩ := HB.out.cells3; clear hb)
            | (go_at_call 9; refine (good_no _ _ _ _ hc).mono ?_; rintro e wx ⟨rfl, hb⟩; replace HB := Lib.hid (HB.out.next hb); obtain ⟨c0, c1, c2, _⟩ := HB.out.cells3; clear hb)
            | (go_at_call 10; refine (awake_any _ _ _ _ _ _ hc ht ‹_›).mono ?_; rintro e wx ⟨rfl, hb⟩; replace HB := Lib.hid (HB.out.next hb); obtain ⟨c0, c1, c2, _⟩ := HB.out.cells3; clear hb)
            | (go_at_call 10; refine (awake_bad _ _ _ _ _ _ hc).mono ?_; rintro e wx ⟨rfl, hb⟩; replace HB := Lib.hid (HB.out.next hb); obtain ⟨c0, c1, c2, _⟩ := HB.out.cells3; clear hb)
            | (go_at_call 12; refine (mine_any _ _ _ _ _ hc ⟨by omega, by omega⟩).mono ?_; rintro e wx ⟨rfl, hb⟩; replace HB := Lib.hid (HB.out.next hb); obtain ⟨c0, c1, c2, _⟩ := HB.out.cells3; clear hb))
          go_roundw
          case rel => exact ⟨j + 1, by omega, by go_num, by rw [N1.out], HB.out⟩
          case measure => simp [intOf]; omega
      · have n1 := ownN_all hc a1 (k := j) (by omega)
        have d2 : decide ((j : Int) < s0_0) = false := decide_eq_false hlt
        clear hbd
        go_wp2_with (first
          | (go_at_call 7; refine (alive_yes _).mono ?_; rintro e wx ⟨rfl, hb⟩; replace HB := Lib.hid (HB.out.next hb); obtain ⟨c0, c1, c2, _⟩ := HB.out.cells3; clear hb)
          | (go_at_call 9; refine (good_yes _ _ _ _ hc).mono ?_; rintro e wx ⟨rfl, hb⟩; replace HB := Lib.hid (HB.out.next hb); obtain ⟨c0, c1, c2, _⟩ := HB.out.cells3; clear hb)
          | (go_at_call 9; refine (good_no _ _ _ _ hc).mono ?_; rintro e wx ⟨rfl, hb⟩; replace HB := Lib.hid (HB.out.next hb); obtain ⟨c0, c1, c2, _⟩ := HB.out.cells3; clear hb)
          | (go_at_call 10; refine (awake_any _ _ _ _ _ _ hc ht ‹_›).mono ?_; rintro e wx ⟨rfl, hb⟩; replace HB := Lib.hid (HB.out.next hb); obtain ⟨c0, c1, c2, _⟩ := HB.out.cells3; clear hb)
          | (go_at_call 10; refine (awake_bad _ _ _ _ _ _ hc).mono ?_; rintro e wx ⟨rfl, hb⟩; replace HB := Lib.hid (HB.out.next hb); obtain ⟨c0, c1, c2, _⟩ := HB.out.cells3; clear hb)
          | (go_at_call 12; refine (mine_any _ _ _ _ _ hc ⟨by omega, by omega⟩).mono ?_; rintro e wx ⟨rfl, hb⟩; replace HB := Lib.hid (HB.out.next hb); obtain ⟨c0, c1, c2, _⟩ := HB.out.cells3; clear hb))
        go_ret
        exact ⟨rfl, HB.out.below⟩

set_option maxRecDepth 100000 in
theorem lifted (os : Os) (started : os.Started) (H : Type) (enc : TypeId × Value → H) :
    ReturnsInHanded {} Try.checked os 4 .any (Rows.dutyGuardsSpec.pre6 enc Try.prog Try.f4 Rows.dutyGuardsRow.domain false) (Rows.dutyGuardsSpec.post enc Try.prog Try.f4 false true false false) := by
  refine returnsInHanded_of_change (C := Try.checked) own started (by kernel_rfl) Try.func4
    (ChangeSpec.witness6 (enc := enc) (C := Try.checked) false ⟨#[], #[.agg #[.int .i64 0, .int .i64 0, .int .i64 0], .int .i64 0, .int .i64 0, .int .i64 0, .int .i64 0], []⟩ 8 (by kernel_rfl) (by kernel_rfl) (by kernel_rfl) (by kernel_rfl)) ?_
  intro W base args ds gs before hval0 hW hcnd _
  have hval : ∀ (j : Nat) t v, Try.f4.params[j]? = some t → args[j]? = some v → Value.okWide Try.prog W .any base t v := hval0
  have hW' := hW
  obtain ⟨p, q, hA0, hV, rfl, hfz, hnd⟩ := hW
  have hA : DataW.TrodAll enc Try.prog W 0 (fun _ => true) true Try.f4.params.toList args.toList ds p := hA0
  have hAk := hA
  rw [Try.params4] at hA hval
  obtain ⟨v0, vs0, d0, ds0, p0, q0, hargs, rfl, hp, h0, r0⟩ := trodAll_cons hA
  obtain ⟨v1, vs1, d1, ds1, p1, q1, rfl, rfl, rfl, h1, r1⟩ := trodAll_cons r0
  obtain ⟨v2, vs2, d2, ds2, p2, q2, rfl, rfl, rfl, h2, r2⟩ := trodAll_cons r1
  obtain ⟨v3, vs3, d3, ds3, p3, q3, rfl, rfl, rfl, h3, r3⟩ := trodAll_cons r2
  obtain ⟨v4, vs4, d4, ds4, p4, q4, rfl, rfl, rfl, h4, r4⟩ := trodAll_cons r3
  obtain ⟨rfl, rfl, rfl⟩ := trodAll_nil r4
  obtain rfl : args = #[v0, v1, v2, v3, v4] := by cases args; simp_all
  obtain ⟨rfl, rfl⟩ := trodVars_none hV
  clear hA0 hval0 hargs
  simp only [List.append_nil] at hW'
  have hend : ∀ W' : World, Below W.heap.size W W' → Rows.dutyGuardsSpec.post enc Try.prog Try.f4 false true false false W #[v0, v1, v2, v3, v4] (.bool true) W' := fun W' hb =>
    law_post (tb := 4) hW' hAk rfl (by kernel_rfl) (by kernel_rfl) (by kernel_rfl) Try.underlying4 rfl rfl rfl hb
  clear hW' hAk hp
  obtain ⟨ns0, rfl, hl0, hw0⟩ := ints_struct (ks := [.i64, .i64, .i64]) Try.underlying23 (by kernel_rfl) (by kernel_rfl) (by kernel_rfl) (hval 0 23 v0 rfl rfl) h0
  obtain ⟨s0_0, s0_1, s0_2, rfl⟩ := split3 hl0
  clear hl0
  obtain ⟨a1, rfl, rfl, rfl, w1⟩ := open_int Try.underlying3 (hval 1 3 v1 rfl rfl) h1
  obtain ⟨a2, rfl, rfl, rfl, w2⟩ := open_int Try.underlying3 (hval 2 3 v2 rfl rfl) h2
  obtain ⟨a3, rfl, rfl, rfl, w3⟩ := open_int Try.underlying3 (hval 3 3 v3 rfl rfl) h3
  obtain ⟨a4, rfl, rfl, rfl, w4⟩ := open_int Try.underlying3 (hval 4 3 v4 rfl rfl) h4
  refine (walk s0_0 s0_1 s0_2 a1 a2 a3 a4 W (hw0 0 _ _ rfl rfl) (hw0 1 _ _ rfl rfl) (hw0 2 _ _ rfl rfl) w1 w2 w3 w4).mono fun e W' ⟨he, hg⟩ => ?_
  subst he
  exact ⟨_, rfl, hend W' hg⟩

theorem over : Rows.dutyGuardsRow.holds Try.pinned (OpenSpec.ofChange Rows.dutyGuardsSpec) :=
  OpenClaim.holds_of_wide 4 Try.f4 rfl rfl rfl rfl rfl rfl rfl ⟨rfl, rfl, rfl, rfl, rfl⟩ rfl rfl rfl rfl rfl (by kernel_rfl) Try.func4 (by kernel_rfl)
    (of_decide_eq_true (by kernel_rfl)) (by unfold Func.isWrapper; first | (rw [if_pos (by decide +kernel)]; kernel_rfl) | (rw [if_neg (by decide +kernel)]; exact ⟨rfl, rfl⟩))
    (fun os started H enc _ => lifted os started H enc)

/-- THE STATEMENT -/
theorem proved : Rows.DutyGuardsSaid :=
  over
#print axioms proved
end Go.Proofs.Ythkpalfpohhmoaa.dutyGuards
