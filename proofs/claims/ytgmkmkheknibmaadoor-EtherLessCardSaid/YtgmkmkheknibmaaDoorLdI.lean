/- The document's In. -/
import Derived.Test.YtgmkmkheknibmaaDoorLkP
import Derived.Test.YtgmkmkheknibmaaDoorLkC
import Derived.Deep.QuietTactic
import Derived.BigQuiet
namespace Go.Proofs.YtgmkmkheknibmaaDoor
open Go.RowKit
set_option linter.unusedVariables false

/-- Is a node one of a set? -/
def inSet (x : Nat) (i : Int) : Bool := decide (0 ≤ i ∧ i < 64) && x.testBit i.toNat
theorem inSet_nat {x k : Nat} (h : k < 64) : inSet x (k : Int) = x.testBit k := by
  unfold inSet
  have : (0 : Int) ≤ k ∧ (k : Int) < 64 := by omega
  simp [this]
theorem rem_is (x k : Nat) : ((x : Int) / (2 : Int) ^ k).tmod 2 = ((x / 2 ^ k % 2 : Nat) : Int) := by
  rw [show ((x : Int) / (2 : Int) ^ k) = ((x / 2 ^ k : Nat) : Int) by simp, show (2 : Int) = ((2 : Nat) : Int) from rfl, ← Int.ofNat_tmod]
theorem in_any (w : World) (x : Nat) (hx : x < 18446744073709551616) (i : Int) : Calls Tryd.prog 11 #[.int .u64 x, .int .i64 i] w fun e w' => e = .returned (.bool (inSet x i)) ∧ w' = w := by
  by_cases h0 : 0 ≤ i
  · by_cases h1 : i < 64
    · obtain ⟨k, rfl⟩ : ∃ k : Nat, i = k := ⟨i.toNat, by omega⟩
      rw [inSet_nat (by omega)]
      have e1 := rem_is x k
      have e2 := bit_is x k
      obtain ⟨Y, hY⟩ : ∃ Y, x / 2 ^ k % 2 = Y := ⟨_, rfl⟩
      rw [hY] at e1 e2
      have e3 : IntKind.u64.wrap (k : Int) = k := by rw [IntKind.wrap_u64]; omega
      have hmin : min k 64 = k := by omega
      go_enter Tryd.func11, Tryd.ntmps11
      go_wp2
      go_ret
      exact ⟨rfl, rfl⟩
    · have : inSet x i = false := by unfold inSet; simp; omega
      rw [this]
      go_enter Tryd.func11, Tryd.ntmps11
      go_wp2
      go_ret
      exact ⟨rfl, rfl⟩
  · have : inSet x i = false := by unfold inSet; simp; omega
    have d : decide (0 ≤ i) = false := decide_eq_false h0
    rw [this]
    go_enter Tryd.func11, Tryd.ntmps11
    go_wp2
    go_ret
    exact ⟨rfl, rfl⟩
end Go.Proofs.YtgmkmkheknibmaaDoor
