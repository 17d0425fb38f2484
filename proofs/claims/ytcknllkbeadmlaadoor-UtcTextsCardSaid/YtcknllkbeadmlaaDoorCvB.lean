/- Package civil: the number of a date, the date of a number; the document's own, and its next date. -/
import Derived.Test.YtcknllkbeadmlaaDoorCvA
namespace Go.Proofs.YtcknllkbeadmlaaDoor
open Go.RowKit
set_option linter.unusedSimpArgs false
set_option linter.unusedVariables false

theorem number_no (y m d : Int) (w : World) (h : ¬ CanD y m d) :
    Calls Tryd.prog 31 #[.agg #[.int .i64 y, .int .i64 m, .int .i64 d]] w fun e w' => e = .returned (.tuple #[.int .i64 0, .bool false]) ∧ Below w.heap.size w w' := by
  have HB := Lib.hid (Box.start w 33 #[.int .i64 y, .int .i64 m, .int .i64 d])
  obtain ⟨c0, c1, c2, _⟩ := HB.out.cells3
  go_enter Tryd.func31, Tryd.ntmps31
  go_wp2_with (go_at_call 37; refine (good_any y m d _).mono ?_; rintro e w1 ⟨rfl, hb1⟩; rw [goodD_no h])
  go_ret2
  exact ⟨rfl, (HB.out.next hb1).below⟩
theorem number_yes (y m d : Int) (w : World) (h : CanD y m d) :
    Calls Tryd.prog 31 #[.agg #[.int .i64 y, .int .i64 m, .int .i64 d]] w fun e w' => e = .returned (.tuple #[.int .i64 (numV y m d), .bool true]) ∧ Below w.heap.size w w' := by
  have HB := Lib.hid (Box.start w 33 #[.int .i64 y, .int .i64 m, .int .i64 d])
  obtain ⟨c0, c1, c2, _⟩ := HB.out.cells3
  have HC := Lib.hid h
  obtain ⟨h1, h2, h3, h4, h5, h6⟩ := h
  have ab := ahead_bd (y := y) h1 (by omega)
  have db := (days_bd y m).2
  obtain ⟨A, hA⟩ : ∃ A, aheadV y = A := ⟨_, rfl⟩
  rw [hA] at ab
  have e1 := IntWalk.i64_in (-719162 + A) (by omega)
  have e2 := IntWalk.i64_in (-719162 + A + d) (by omega)
  have e3 := IntWalk.i64_in (-719162 + A + d - 1) (by omega)
  go_enter Tryd.func31, Tryd.ntmps31
  go_wp2_with (go_at_call 37; refine (good_any y m d _).mono ?_; rintro e w1 ⟨rfl, hb1⟩; rw [goodD_yes HC.out]; have HB1 := Lib.hid (HB.out.next hb1); clear c0 c1 c2; obtain ⟨c0, c1, c2, _⟩ := HB1.out.cells3)
  go_quiet ((go_at_call 45; refine (ahead_any y _ h1 (by omega)).mono ?_; rintro e wx ⟨rfl, rfl⟩; rw [hA]; exact ⟨rfl, _, rfl⟩))
  have HB2 := Lib.hid (HB1.out.drewN nq)
  clear c0 c1 c2
  go_wp2
  obtain ⟨N0, hN0⟩ : ∃ N, -719162 + A + d - 1 = N := ⟨_, rfl⟩
  have HN := Lib.hid hN0
  have nb : -719162 ≤ N0 ∧ N0 ≤ 2932928 := by omega
  simp only [hN0]
  clear hN0 e1 e2 e3
  go_loopw [4, 5] (fun n i wr => ∃ k : Nat, (k : Int) + 1 ≤ m ∧ n = .int .i64 (N0 + monthsV y k) ∧ i = .int .i64 ((k : Int) + 1) ∧ Box w 33 #[.int .i64 y, .int .i64 m, .int .i64 d] wr) (fun _ i _ => 13 - (intOf i).toNat)
  case atStart => exact ⟨0, by omega, by show Value.int .i64 N0 = .int .i64 (N0 + 0); rw [Int.add_zero], rfl, HB2.out⟩
  case round =>
    obtain ⟨k, hk, rfl, rfl, hbx⟩ := hrel
    have HX := Lib.hid hbx
    obtain ⟨c0, c1, c2, _⟩ := hbx.cells3
    have mb := months_nonneg y k
    have ml := months_le y (j := k) (k := 12) (by omega)
    have m12 := months_12 y
    have m13 : monthsV y k ≤ 366 := by rw [m12] at ml; split at ml <;> omega
    clear ml m12 hbx
    by_cases hlt : (k : Int) + 1 < m
    · have hn := months_next y k
      have dd := days_bd y ((k : Int) + 1)
      obtain ⟨M, hM⟩ : ∃ M, monthsV y k = M := ⟨_, rfl⟩
      obtain ⟨D, hD⟩ : ∃ D, daysV y ((k : Int) + 1) = D := ⟨_, rfl⟩
      rw [hM] at mb m13 hn
      rw [hD] at dd hn
      have f1 := IntWalk.i64_in (N0 + M + D) (by omega)
      have f2 := IntWalk.i64_in ((k : Int) + 1 + 1) (by omega)
      have HM := Lib.hid hn
      simp only [hM]
      clear hn hM
      go_wp2_with (go_at_call 46; refine (days_any y _ _ (by omega)).mono ?_; rintro e wx ⟨rfl, rfl⟩; rw [hD])
      go_roundw
      case rel => exact ⟨k + 1, by omega, by rw [HM.out, ← Int.add_assoc], by go_num, HX.out⟩
      case measure => simp [intOf]; omega
    · have hkm : k = (m - 1).toNat := by omega
      have HK := Lib.hid hkm
      clear hkm
      obtain ⟨M, hM⟩ : ∃ M, monthsV y k = M := ⟨_, rfl⟩
      have HM := Lib.hid hM
      simp only [hM]
      clear hM
      go_wp2
      go_ret2
      refine ⟨ret_ib ?_ rfl, HX.out.below⟩
      unfold numV
      rw [hA, ← HK.out, HM.out, ← HN.out]
      omega
theorem rahead_any (y : Int) (w : World) (h1 : 1 ≤ y) (h2 : y ≤ 10000) :
    Calls Tryd.prog 54 #[.int .i64 y] w fun e w' => e = .returned (.int .i64 (aheadV y)) ∧ w' = w := by
  go_enter Tryd.func54, Tryd.ntmps54
  go_wp2
  go_loopw [3, 4] (fun n i wr => ∃ z : Int, 1 ≤ z ∧ z ≤ y ∧ n = .int .i64 (aheadV z) ∧ i = .int .i64 z ∧ wr = w) (fun _ i _ => 10000 - (intOf i).toNat)
  case atStart => exact ⟨1, by omega, h1, rfl, rfl, rfl⟩
  case round =>
    obtain ⟨z, hz1, hz2, rfl, rfl, hw⟩ := hrel
    have hw' := hw.symm
    subst hw'
    clear hw
    have ab := ahead_bd (y := z) hz1 (by omega)
    have f0 := IntWalk.i64_in (z + 400) (by omega)
    have f1 := IntWalk.i64_in (aheadV z + 146097) (by omega)
    have HA : Hid (aheadV z + 146097 = aheadV (z + 400)) := Lib.hid (by unfold aheadV; omega)
    obtain ⟨A, hA⟩ : ∃ A, aheadV z = A := ⟨_, rfl⟩
    have HAA := Lib.hid hA
    rw [hA] at HA f1
    simp only [hA]
    clear hA
    by_cases hlt : z + 400 ≤ y
    · go_wp2
      go_roundw
      case rel => exact ⟨z + 400, by omega, by omega, by rw [HA.out], rfl, trivial⟩
      case measure => simp [intOf]; omega
    · have d0 : decide (z + 400 ≤ y) = false := decide_eq_false hlt
      go_wp2
      go_loopw [3, 4] (fun n i wr => ∃ x : Int, 1 ≤ x ∧ x ≤ y ∧ n = .int .i64 (aheadV x) ∧ i = .int .i64 x ∧ wr = w) (fun _ i _ => 10000 - (intOf i).toNat)
      case atStart => exact ⟨z, hz1, hz2, by rw [HAA.out], rfl, rfl⟩
      case round =>
        clear HA HAA f1 f0 ab hlt d0
        obtain ⟨x, hx1, hx2, rfl, rfl, hw⟩ := hrel
        have hw' := hw.symm
        subst hw'
        clear hw
        have ab := ahead_bd (y := x) hx1 (by omega)
        have ld := long_day x
        obtain ⟨B, hB⟩ : ∃ A, aheadV x = A := ⟨_, rfl⟩
        rw [hB] at ab ld
        by_cases hl2 : x < y
        · have f2 := IntWalk.i64_in (x + 1) (by omega)
          have f3 := IntWalk.i64_in (B + 365) (by omega)
          have f4 := IntWalk.i64_in (B + 365 + 1) (by omega)
          have HLD := Lib.hid ld
          simp only [hB]
          clear ld hB
          cases hl : longB x
          all_goals
            rw [hl] at HLD
            go_wp2_with (go_at_call 64; refine (rlong_any x _ (by omega)).mono ?_; rintro e wx ⟨rfl, rfl⟩; rw [hl])
            go_roundw
            case rel => exact ⟨x + 1, by omega, by omega, by rw [HLD.out]; simp, rfl, trivial⟩
            case measure => simp [intOf]; omega
        · have hxy : x = y := by omega
          have HXY := Lib.hid hxy
          have HBB := Lib.hid hB
          simp only [hB]
          clear hxy hB ld
          go_wp2
          go_ret
          refine ⟨ret_int ?_, rfl⟩
          rw [← HXY.out, HBB.out]
theorem rnumber_any (y m d : Int) (w : World) (h : CanD y m d) :
    Calls Tryd.prog 33 #[.agg #[.int .i64 y, .int .i64 m, .int .i64 d]] w fun e w' => e = .returned (.int .i64 (numV y m d)) ∧ Below w.heap.size w w' := by
  have HB := Lib.hid (Box.start w 26 #[.int .i64 y, .int .i64 m, .int .i64 d])
  obtain ⟨c0, c1, c2, _⟩ := HB.out.cells3
  have HC := Lib.hid h
  obtain ⟨h1, h2, h3, h4, h5, h6⟩ := h
  have ab := ahead_bd (y := y) h1 (by omega)
  have db := (days_bd y m).2
  obtain ⟨A, hA⟩ : ∃ A, aheadV y = A := ⟨_, rfl⟩
  rw [hA] at ab
  have a70 : aheadV 1970 = 719162 := by decide
  have e1 := IntWalk.i64_in (A - 719162) (by omega)
  go_enter Tryd.func33, Tryd.ntmps33
  go_wp2_with (first
    | (go_at_call 54; with_reducible refine (rahead_any y _ h1 (by omega)).mono ?_; rintro e wx ⟨rfl, rfl⟩; rw [hA])
    | (go_at_call 54; with_reducible refine (rahead_any 1970 _ (by decide) (by decide)).mono ?_; rintro e wx ⟨rfl, rfl⟩; rw [a70]))
  obtain ⟨N0, hN0⟩ : ∃ N, A - 719162 = N := ⟨_, rfl⟩
  have HN := Lib.hid hN0
  have nb : -719162 ≤ N0 ∧ N0 ≤ 2932928 := by omega
  simp only [hN0]
  clear hN0 e1 c0 c1 c2
  go_loopw [3, 4] (fun n i wr => ∃ k : Nat, (k : Int) + 1 ≤ m ∧ n = .int .i64 (N0 + monthsV y k) ∧ i = .int .i64 ((k : Int) + 1) ∧ Box w 26 #[.int .i64 y, .int .i64 m, .int .i64 d] wr) (fun _ i _ => 13 - (intOf i).toNat)
  case atStart => exact ⟨0, by omega, by show Value.int .i64 N0 = .int .i64 (N0 + 0); rw [Int.add_zero], rfl, HB.out⟩
  case round =>
    obtain ⟨k, hk, rfl, rfl, hbx⟩ := hrel
    have HX := Lib.hid hbx
    obtain ⟨c0, c1, c2, _⟩ := hbx.cells3
    have mb := months_nonneg y k
    have ml := months_le y (j := k) (k := 12) (by omega)
    have m12 := months_12 y
    have m13 : monthsV y k ≤ 366 := by rw [m12] at ml; split at ml <;> omega
    clear ml m12 hbx
    by_cases hlt : (k : Int) + 1 < m
    · have hn := months_next y k
      have dd := days_bd y ((k : Int) + 1)
      obtain ⟨M, hM⟩ : ∃ M, monthsV y k = M := ⟨_, rfl⟩
      obtain ⟨D, hD⟩ : ∃ D, daysV y ((k : Int) + 1) = D := ⟨_, rfl⟩
      rw [hM] at mb m13 hn
      rw [hD] at dd hn
      have f1 := IntWalk.i64_in (N0 + M + D) (by omega)
      have f2 := IntWalk.i64_in ((k : Int) + 1 + 1) (by omega)
      have HM := Lib.hid hn
      simp only [hM]
      clear hn hM
      go_wp2_with (go_at_call 55; refine (rdays_any y _ _ (by omega)).mono ?_; rintro e wx ⟨rfl, rfl⟩; rw [hD])
      go_roundw
      case rel => exact ⟨k + 1, by omega, by rw [HM.out, ← Int.add_assoc], by go_num, HX.out⟩
      case measure => simp [intOf]; omega
    · have hkm : k = (m - 1).toNat := by omega
      have HK := Lib.hid hkm
      clear hkm
      obtain ⟨M, hM⟩ : ∃ M, monthsV y k = M := ⟨_, rfl⟩
      have HM := Lib.hid hM
      rw [hM] at mb m13
      have f1 := IntWalk.i64_in (N0 + M + d) (by omega)
      have f2 := IntWalk.i64_in (N0 + M + d - 1) (by omega)
      simp only [hM]
      clear hM
      go_wp2
      go_ret
      refine ⟨ret_int ?_, HX.out.below⟩
      unfold numV
      rw [hA, ← HK.out, HM.out, ← HN.out]
      omega
end Go.Proofs.YtcknllkbeadmlaaDoor
