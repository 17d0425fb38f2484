/- Package duty: the example that the document tells. -/
import Derived.Test.YthkpalfpohhmoaaDtC
namespace Go.Proofs.Ythkpalfpohhmoaa
open Go.RowKit
set_option linter.unusedSimpArgs false
set_option linter.unusedVariables false

theorem alive_yes (w : World) : Calls Try.prog 7 #[] w fun e w' => e = .returned (.bool true) ∧ Below w.heap.size w w' := by
  have e1 : awakeB 4 1 999 0 = true := by decide
  have e2 : awakeB 4 1 1000 0 = false := by decide
  have e3 : awakeB 4 1 1009 10 = true := by decide
  have e4 : awakeB 4 1 3990 10 = true := by decide
  have e5 : mineB 4 0 8 = true := by decide
  have hc : Can 4 1 0 := ⟨by decide, by decide, by decide, by decide, by decide, by decide⟩
  have HB := Lib.hid (Box.start w 23 #[.int .i64 4, .int .i64 1, .int .i64 0])
  go_enter Try.func7, Try.ntmps7
  go_wp2_with (first
    | (go_at_call 10; refine (awake_any 4 1 0 _ _ _ hc ⟨by decide, by decide⟩ ⟨by decide, by decide⟩).mono ?_; rintro e w2 ⟨rfl, hb⟩; replace HB := Lib.hid (HB.out.next hb); obtain ⟨c0, c1, c2, _⟩ := HB.out.cells3; clear hb)
    | (go_at_call 12; refine (mine_any 4 1 0 _ _ hc ⟨by decide, by decide⟩).mono ?_; rintro e w2 ⟨rfl, hb⟩; replace HB := Lib.hid (HB.out.next hb); obtain ⟨c0, c1, c2, _⟩ := HB.out.cells3; clear hb))
  go_ret
  exact ⟨rfl, HB.out.below⟩
end Go.Proofs.Ythkpalfpohhmoaa
