/- Package civil: long years, months, the days ahead of a year, and whether a date can be; the document's own. -/
import Derived.Test.YtcknllkbeadmlaaDoorCvM
import Derived.Test.YtcknllkbeadmlaaDoorBox
import Derived.Test.YtcknllkbeadmlaaDoorTurn
import Derived.Test.YtcknllkbeadmlaaDoorProg
import Derived.Outline
import Derived.PlainAid
import Derived.OwnWalk
import Derived.Deep.QuietTactic
import Derived.BigQuiet
namespace Go.Proofs.YtcknllkbeadmlaaDoor
open Go.RowKit
set_option linter.unusedSimpArgs false
set_option linter.unusedVariables false

theorem tmod_of {a : Int} (h : 0 ≤ a) (b : Int) : a.tmod b = a % b := Int.tmod_eq_emod_of_nonneg h
theorem tdiv_of {a : Int} (h : 0 ≤ a) (b : Int) : a.tdiv b = a / b := Int.tdiv_eq_ediv_of_nonneg h
theorem beq_no {a b : Int} (h : ¬ a = b) : (a == b) = false := by simpa using h
theorem long_any (y : Int) (w : World) (h : 0 ≤ y) :
    Calls Tryd.prog 60 #[.int .i64 y] w fun e w' => e = .returned (.bool (longB y)) ∧ w' = w := by
  have e1 := tmod_of h 4
  have e2 := tmod_of h 100
  have e3 := tmod_of h 400
  unfold longB
  by_cases h4 : y % 4 = 0 <;> by_cases h100 : y % 100 = 0 <;> by_cases h400 : y % 400 = 0
  all_goals
    go_enter Tryd.func60, Tryd.ntmps60
    go_wp2
    go_ret
    exact ⟨by simp [h4, h100, h400], rfl⟩
theorem rlong_any (y : Int) (w : World) (h : 0 ≤ y) :
    Calls Tryd.prog 64 #[.int .i64 y] w fun e w' => e = .returned (.bool (longB y)) ∧ w' = w := by
  have e1 := tmod_of h 4
  have e2 := tmod_of h 100
  have e3 := tmod_of h 400
  unfold longB
  by_cases h4 : y % 4 = 0 <;> by_cases h100 : y % 100 = 0 <;> by_cases h400 : y % 400 = 0
  all_goals
    go_enter Tryd.func64, Tryd.ntmps64
    go_wp2
    all_goals (go_ret; exact ⟨by simp [h4, h100, h400], rfl⟩)
theorem daysV_30 {y m : Int} (h : m = 4 ∨ m = 6 ∨ m = 9 ∨ m = 11) : daysV y m = 30 := if_pos h
theorem daysV_2 (y : Int) : daysV y 2 = if longB y then 29 else 28 := by unfold daysV; rw [if_neg (by decide), if_pos rfl]
theorem daysV_31 {y m : Int} (h : ¬ (m = 4 ∨ m = 6 ∨ m = 9 ∨ m = 11)) (h2 : ¬ m = 2) : daysV y m = 31 := by unfold daysV; rw [if_neg h, if_neg h2]
theorem days_any (y m : Int) (w : World) (h : 0 ≤ y) :
    Calls Tryd.prog 46 #[.int .i64 y, .int .i64 m] w fun e w' => e = .returned (.int .i64 (daysV y m)) ∧ w' = w := by
  by_cases h30 : m = 4 ∨ m = 6 ∨ m = 9 ∨ m = 11
  · rw [daysV_30 h30]
    rcases h30 with rfl | rfl | rfl | rfl
    all_goals
      go_enter Tryd.func46, Tryd.ntmps46
      go_wp2
      go_ret
      exact ⟨rfl, rfl⟩
  by_cases h2 : m = 2
  · subst h2
    rw [daysV_2]
    clear h30
    cases hl : longB y
    all_goals
      go_enter Tryd.func46, Tryd.ntmps46
      go_wp2_with (go_at_call 60; refine (long_any y _ h).mono ?_; rintro e w' ⟨rfl, rfl⟩; rw [hl])
      go_ret
      exact ⟨rfl, rfl⟩
  · rw [daysV_31 h30 h2]
    have a1 := beq_no (a := m) (b := 4) (by omega)
    have a2 := beq_no (a := m) (b := 6) (by omega)
    have a3 := beq_no (a := m) (b := 9) (by omega)
    have a4 := beq_no (a := m) (b := 11) (by omega)
    have a5 := beq_no (a := m) (b := 2) (by omega)
    clear h30
    go_enter Tryd.func46, Tryd.ntmps46
    go_wp2
    go_ret
    exact ⟨rfl, rfl⟩
theorem rdays_any (y m : Int) (w : World) (h : 0 ≤ y) :
    Calls Tryd.prog 55 #[.int .i64 y, .int .i64 m] w fun e w' => e = .returned (.int .i64 (daysV y m)) ∧ w' = w := by
  by_cases h30 : m = 4 ∨ m = 6 ∨ m = 9 ∨ m = 11
  · rw [daysV_30 h30]
    rcases h30 with rfl | rfl | rfl | rfl
    all_goals
      go_enter Tryd.func55, Tryd.ntmps55
      go_wp2
      go_ret
      exact ⟨rfl, rfl⟩
  by_cases h2 : m = 2
  · subst h2
    rw [daysV_2]
    clear h30
    cases hl : longB y
    all_goals
      go_enter Tryd.func55, Tryd.ntmps55
      go_wp2_with (go_at_call 64; refine (rlong_any y _ h).mono ?_; rintro e w' ⟨rfl, rfl⟩; rw [hl])
      go_ret
      exact ⟨rfl, rfl⟩
  · rw [daysV_31 h30 h2]
    have a1 := beq_no (a := m) (b := 4) (by omega)
    have a2 := beq_no (a := m) (b := 6) (by omega)
    have a3 := beq_no (a := m) (b := 9) (by omega)
    have a4 := beq_no (a := m) (b := 11) (by omega)
    have a5 := beq_no (a := m) (b := 2) (by omega)
    clear h30
    go_enter Tryd.func55, Tryd.ntmps55
    go_wp2
    go_ret
    exact ⟨rfl, rfl⟩
theorem ahead_any (y : Int) (w : World) (h1 : 1 ≤ y) (h2 : y ≤ 10000) :
    Calls Tryd.prog 45 #[.int .i64 y] w fun e w' => e = .returned (.int .i64 (aheadV y)) ∧ w' = w := by
  have e0 := IntWalk.i64_in (y - 1) (by omega)
  have h0 : 0 ≤ y - 1 := by omega
  have e1 := tdiv_of h0 4
  have e2 := tdiv_of h0 100
  have e3 := tdiv_of h0 400
  have e4 := IntWalk.i64_in (365 * (y - 1)) (by omega)
  have e5 := IntWalk.i64_in ((y - 1) / 4) (by omega)
  have e6 := IntWalk.i64_in ((y - 1) / 100) (by omega)
  have e7 := IntWalk.i64_in ((y - 1) / 400) (by omega)
  have e8 := IntWalk.i64_in (365 * (y - 1) + (y - 1) / 4) (by omega)
  have e9 := IntWalk.i64_in (365 * (y - 1) + (y - 1) / 4 - (y - 1) / 100) (by omega)
  have e10 := IntWalk.i64_in (365 * (y - 1) + (y - 1) / 4 - (y - 1) / 100 + (y - 1) / 400) (by omega)
  go_enter Tryd.func45, Tryd.ntmps45
  go_wp2
  go_ret
  exact ⟨rfl, rfl⟩
theorem good_any (y m d : Int) (w : World) :
    Calls Tryd.prog 37 #[.agg #[.int .i64 y, .int .i64 m, .int .i64 d]] w fun e w' => e = .returned (.bool (goodD y m d)) ∧ Below w.heap.size w w' := by
  have HB := Lib.hid (below_alloc w (.cells #[.int .i64 y, .int .i64 m, .int .i64 d] 33))
  have c := (Holds.new w 33 #[.int .i64 y, .int .i64 m, .int .i64 d])
  have c0 := c.cell 0
  have c1 := c.cell 1
  have c2 := c.cell 2
  clear c
  by_cases hc : CanD y m d
  · rw [goodD_yes hc]
    obtain ⟨h1, h2, h3, h4, h5, h6⟩ := hc
    go_enter Tryd.func37, Tryd.ntmps37
    go_wp2
    go_quiet ((go_at_call 46; refine (days_any y m _ (by omega)).mono ?_; rintro e wx ⟨rfl, rfl⟩; exact ⟨rfl, _, rfl⟩))
    go_wp2
    go_ret
    exact ⟨rfl, below_drewN HB.out _⟩
  · rw [goodD_no hc]
    rcases not_canD hc with h1 | ⟨h1, h2⟩ | ⟨h1, h2, h3⟩ | ⟨h1, h2, h3, h4⟩ | ⟨h1, h2, h3, h4, h5⟩ | ⟨h1, h2, h3, h4, h5, h6⟩
    all_goals
      clear hc
      try have d1 : decide (1 ≤ y) = false := decide_eq_false (by omega)
      try have d2 : decide (y ≤ 9999) = false := decide_eq_false (by omega)
      try have d3 : decide (1 ≤ m) = false := decide_eq_false (by omega)
      try have d4 : decide (m ≤ 12) = false := decide_eq_false (by omega)
      try have d5 : decide (1 ≤ d) = false := decide_eq_false (by omega)
      try have d6 : decide (d ≤ daysV y m) = false := decide_eq_false (by omega)
      go_enter Tryd.func37, Tryd.ntmps37
      go_wp2
      go_quiet ((go_at_call 46; refine (days_any y m _ (by omega)).mono ?_; rintro e wx ⟨rfl, rfl⟩; exact ⟨rfl, _, rfl⟩))
      go_wp2
      go_ret
      exact ⟨rfl, below_drewN HB.out _⟩
theorem rgood_any (y m d : Int) (w : World) :
    Calls Tryd.prog 38 #[.agg #[.int .i64 y, .int .i64 m, .int .i64 d]] w fun e w' => e = .returned (.bool (goodD y m d)) ∧ Below w.heap.size w w' := by
  have HB := Lib.hid (below_alloc w (.cells #[.int .i64 y, .int .i64 m, .int .i64 d] 26))
  have c := (Holds.new w 26 #[.int .i64 y, .int .i64 m, .int .i64 d])
  have c0 := c.cell 0
  have c1 := c.cell 1
  have c2 := c.cell 2
  clear c
  by_cases hc : CanD y m d
  · rw [goodD_yes hc]
    obtain ⟨h1, h2, h3, h4, h5, h6⟩ := hc
    go_enter Tryd.func38, Tryd.ntmps38
    go_wp2
    go_quiet ((go_at_call 55; refine (rdays_any y m _ (by omega)).mono ?_; rintro e wx ⟨rfl, rfl⟩; exact ⟨rfl, _, rfl⟩))
    go_wp2
    go_ret
    exact ⟨rfl, below_drewN HB.out _⟩
  · rw [goodD_no hc]
    rcases not_canD hc with h1 | ⟨h1, h2⟩ | ⟨h1, h2, h3⟩ | ⟨h1, h2, h3, h4⟩ | ⟨h1, h2, h3, h4, h5⟩ | ⟨h1, h2, h3, h4, h5, h6⟩
    all_goals
      clear hc
      try have d1 : decide (1 ≤ y) = false := decide_eq_false (by omega)
      try have d2 : decide (y ≤ 9999) = false := decide_eq_false (by omega)
      try have d3 : decide (1 ≤ m) = false := decide_eq_false (by omega)
      try have d4 : decide (m ≤ 12) = false := decide_eq_false (by omega)
      try have d5 : decide (1 ≤ d) = false := decide_eq_false (by omega)
      try have d6 : decide (d ≤ daysV y m) = false := decide_eq_false (by omega)
      go_enter Tryd.func38, Tryd.ntmps38
      go_wp2
      go_quiet ((go_at_call 55; refine (rdays_any y m _ (by omega)).mono ?_; rintro e wx ⟨rfl, rfl⟩; exact ⟨rfl, _, rfl⟩))
      go_wp2
      go_ret
      exact ⟨rfl, below_drewN HB.out _⟩
end Go.Proofs.YtcknllkbeadmlaaDoor
