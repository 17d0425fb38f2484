/- The document's Floor, for seats over LawKit. -/
import Derived.Test.YtoggpdfkklombaaFxA
namespace Go.Proofs.Ytoggpdfkklombaa
open Go.RowKit
set_option linter.unusedVariables false
set_option linter.unusedSimpArgs false

theorem rfloor_yes (a b : Int) (w : World) (ha : Fits a) (h1 : 1 ≤ b) (h2 : b ≤ 9223372036854775807) :
    Calls Try.prog 28 #[.int .i64 a, .int .i64 b] w fun e w' => e = .returned (.tuple #[.int .i64 (a / b), .int .i64 (a % b)]) ∧ ∃ n, w' = w.drewN n := by
  obtain ⟨ha1, ha2⟩ := ha
  have g0 := ediv_bd a b h1
  have m0 := Int.emod_nonneg a (show b ≠ 0 by omega)
  have m1 := Int.emod_lt_of_pos a (show 0 < b by omega)
  by_cases c0 : 0 ≤ a
  · have d0 : decide (a < 0) = false := decide_eq_false (by omega)
    by_cases c1 : a % b = 0
    · have d1 : (a % b == 0) = true := by simpa using c1
      have H := Lib.hid c1
      clear c1 g0 m0 m1
      go_enter Try.func28, Try.ntmps28
      go_wp2
      go_quiet (fail)
      go_wp2
      go_ret2
      exact ⟨ret_ii rfl rfl, ⟨_, rfl⟩⟩
    · have d1 : (a % b == 0) = false := by simpa using c1
      have d2 : (a % b != 0) = true := by simpa using c1
      clear c1 g0 m0 m1
      go_enter Try.func28, Try.ntmps28
      go_wp2
      go_quiet (fail)
      go_wp2
      go_ret2
      exact ⟨ret_ii rfl rfl, ⟨_, rfl⟩⟩
  · have hnp : a.tmod b ≤ 0 := by
      have := Int.tmod_nonneg b (a := -a) (by omega)
      rw [Int.neg_tmod] at this; omega
    by_cases c1 : a.tmod b = 0
    · have H : Hid (a.tdiv b = a / b ∧ a.tmod b = a % b) := Lib.hid (tdm_pos a b h1 (by omega))
      have d1 : (a.tmod b == 0) = true := by simpa using c1
      have d2 : (a.tmod b != 0) = false := by simpa using c1
      clear c1 g0 m0 m1 hnp
      go_enter Try.func28, Try.ntmps28
      go_wp2
      go_quiet (fail)
      go_wp2
      go_ret2
      exact ⟨ret_ii H.out.1 H.out.2, ⟨_, rfl⟩⟩
    · have H : Hid (a.tdiv b - 1 = a / b ∧ a.tmod b + b = a % b) := Lib.hid (tdm_neg a b h1 (by omega))
      have g1 : -9223372036854775808 ≤ a.tdiv b - 1 ∧ a.tdiv b - 1 ≤ 9223372036854775807 := by have := H.out; omega
      have g2 : -9223372036854775808 ≤ a.tmod b + b ∧ a.tmod b + b ≤ 9223372036854775807 := by have := H.out; omega
      obtain ⟨g3, g4⟩ := g1
      obtain ⟨g5, g6⟩ := g2
      have d1 : (a.tmod b == 0) = false := by simpa using c1
      have d2 : (a.tmod b != 0) = true := by simpa using c1
      clear c1 g0 m0 m1 hnp
      go_enter Try.func28, Try.ntmps28
      go_wp2
      go_quiet (fail)
      go_wp2
      go_ret2
      exact ⟨ret_ii H.out.1 H.out.2, ⟨_, rfl⟩⟩
end Go.Proofs.Ytoggpdfkklombaa
