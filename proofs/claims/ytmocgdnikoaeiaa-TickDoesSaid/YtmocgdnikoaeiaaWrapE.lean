/- Package wrap's Extend, for all numbers. -/
import Derived.Test.YtmocgdnikoaeiaaProg
import Derived.Test.YtmocgdnikoaeiaaLawKit
import Derived.Outline
namespace Go.Proofs.Ytmocgdnikoaeiaa
open Go.RowKit

/-- The least time from one on that shows a counter. -/
def extV (a r : Int) : Int := a + (r - a) % 4294967296
theorem ext_no (a r : Int) (w : World) (h0 : 0 ≤ a) (h1 : a ≤ 1125899906842624) (h : 1125899906842624 < extV a r) :
    Calls Try.prog 14 #[.int .i64 a, .int .u32 r] w fun e w' => e = .returned (.tuple #[.int .i64 0, .bool false]) ∧ w = w' := by
  have h2 : decide (a < 0) = false := decide_eq_false (by omega)
  have h3 : decide (1125899906842624 < a) = false := decide_eq_false (by omega)
  have h4 : 1125899906842624 < a + (r - a) % 4294967296 := by unfold extV at h; exact h
  clear h
  go_enter Try.func14, Try.ntmps14
  go_wp2
  go_ret2
  exact ⟨rfl, rfl⟩
theorem ext_yes (a r : Int) (w : World) (h0 : 0 ≤ a) (h1 : a ≤ 1125899906842624) (h : extV a r ≤ 1125899906842624) :
    Calls Try.prog 14 #[.int .i64 a, .int .u32 r] w fun e w' => e = .returned (.tuple #[.int .i64 (extV a r), .bool true]) ∧ w = w' := by
  have h2 : decide (a < 0) = false := decide_eq_false (by omega)
  have h3 : decide (1125899906842624 < a) = false := decide_eq_false (by omega)
  have h4 : a + (r - a) % 4294967296 ≤ 1125899906842624 := by unfold extV at h; exact h
  clear h
  go_enter Try.func14, Try.ntmps14
  go_wp2
  go_ret2
  exact ⟨ret_ib rfl rfl, rfl⟩
end Go.Proofs.Ytmocgdnikoaeiaa
