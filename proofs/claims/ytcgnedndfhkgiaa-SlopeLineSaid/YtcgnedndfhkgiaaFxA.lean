/- Package fix, for the seats of later layers: what Add, Sub, Sat, Floor and Clamp answer, for all numbers of 64 bits. -/
import Derived.Test.YtcgnedndfhkgiaaLawKit
import Derived.Test.YtcgnedndfhkgiaaProg
import Derived.Outline
import Derived.PlainAid
import Derived.OwnWalk
import Derived.Deep.QuietTactic
import Derived.BigQuiet
namespace Go.Proofs.Ytcgnedndfhkgiaa
open Go.RowKit

def clampV (x l h : Int) : Int := if x < l ∨ h < l then l else if h < x then h else x
theorem clamp_any (x l h : Int) (w : World) :
    Calls Try.prog 23 #[.int .i64 x, .int .i64 l, .int .i64 h] w fun e w' => e = .returned (.int .i64 (clampV x l h)) ∧ w = w' := by
  by_cases c1 : x < l
  · go_enter Try.func23, Try.ntmps23
    go_wp2
    go_ret
    exact ⟨ret_int (by unfold clampV; rw [if_pos (Or.inl c1)]), rfl⟩
  · by_cases c2 : h < l
    · go_enter Try.func23, Try.ntmps23
      go_wp2
      go_ret
      exact ⟨ret_int (by unfold clampV; rw [if_pos (Or.inr c2)]), rfl⟩
    · by_cases c3 : h < x
      · go_enter Try.func23, Try.ntmps23
        go_wp2
        go_ret
        exact ⟨ret_int (by unfold clampV; rw [if_neg (by omega)]; first | rw [if_pos (by omega)] | rw [if_neg (by omega)]), rfl⟩
      · go_enter Try.func23, Try.ntmps23
        go_wp2
        go_ret
        exact ⟨ret_int (by unfold clampV; rw [if_neg (by omega)]; first | rw [if_pos (by omega)] | rw [if_neg (by omega)]), rfl⟩
end Go.Proofs.Ytcgnedndfhkgiaa
