/- What is said of rounds: behind a rest, a round later, within a round's steps. Nothing here speaks of the program's memory. -/
import Derived.Test.YthkpalfpohhmoaaDtA
namespace Go.Proofs.Ythkpalfpohhmoaa
open Go.RowKit
set_option linter.unusedVariables false

theorem phase_add {r : Int} (h1 : 1 ≤ r) (t k : Int) (h0 : 0 ≤ phaseV r t + k) (h : phaseV r t + k < r * 1000) : phaseV r (t + k) = phaseV r t + k := by
  unfold phaseV at *
  rw [← Int.emod_add_emod, Int.emod_eq_of_lt h0 h]
theorem phase_end {r : Int} (h1 : 1 ≤ r) (t : Int) : phaseV r (t + (r * 1000 - phaseV r t)) = 0 := by
  unfold phaseV
  have e : t + (r * 1000 - t % (r * 1000)) = (t / (r * 1000) + 1) * (r * 1000) := by
    have := Int.mul_ediv_add_emod t (r * 1000)
    grind
  rw [e, Int.mul_emod_left]
theorem phase_later (r t R : Int) : phaseV r (t + R * (r * 1000)) = phaseV r t := by
  unfold phaseV
  rw [Int.add_mul_emod_self_right]
theorem rest_bd {r o n : Int} (h : Can r o n) (t : Int) : 0 ≤ restV r o t ∧ restV r o t ≤ 64000 := by
  have hb := phase_bd h.r1 t
  have := h.r2
  unfold restV
  split <;> omega
theorem rest_awake {r o n : Int} (h : Can r o n) (t : Int) : awakeB r o (t + restV r o t) 0 = true := by
  have h1 := h.o1
  have hb := phase_bd h.r1 t
  unfold awakeB
  refine decide_eq_true (.inr (.inl ?_))
  unfold restV
  split
  · rename_i q
    rw [Int.add_zero]
    omega
  · rw [phase_end h.r1]
    omega
theorem rest_asleep {r o n : Int} (h : Can r o n) (t k : Int) (h0 : 0 ≤ k) (hk : k < restV r o t) : awakeB r o (t + k) 0 = false := by
  have h1 := h.r1
  have hb := phase_bd h.r1 t
  unfold restV at hk
  split at hk
  · omega
  · rename_i q
    unfold awakeB
    rw [phase_add h.r1 t k (by omega) (by omega)]
    exact decide_eq_false (by omega)
theorem mine_later {r n s R : Int} (h0 : 0 ≤ s) (h1 : 0 ≤ R * r) : mineB r n (s + R * r) = mineB r n s := by
  unfold mineB
  rw [Int.add_mul_emod_self_right]
  simp [h0, show 0 ≤ s + R * r by omega]
theorem awake_later (r o t g R : Int) : awakeB r o (t + R * (r * 1000)) g = awakeB r o t g := by
  unfold awakeB
  rw [phase_later]
theorem rest_later (r o t R : Int) : restV r o (t + R * (r * 1000)) = restV r o t := by
  unfold restV
  rw [phase_later]
/-- The step, of the round that begins at s, that is a node's own. -/
def ownAt (r n s : Int) : Int := (n - s) % r
theorem own_bd {r o n : Int} (h : Can r o n) (s : Int) : 0 ≤ ownAt r n s ∧ ownAt r n s < r := ⟨Int.emod_nonneg _ (by have := h.r1; omega), Int.emod_lt_of_pos _ (by have := h.r1; omega)⟩
theorem mine_own {r o n s k : Int} (h : Can r o n) (hs : 0 ≤ s) (h0 : 0 ≤ k) (h1 : k < r) : mineB r n (s + k) = decide (k = ownAt r n s) := by
  have hr := h.r1
  have hn1 := h.n1
  have hn2 := h.n2
  unfold mineB ownAt
  refine decide_eq_decide.2 ⟨fun ⟨_, e⟩ => ?_, fun e => ⟨by omega, ?_⟩⟩
  · rw [← e, show (s + k) % r - s = k + (s + k) % r - (s + k) by omega]
    have : (k + (s + k) % r - (s + k)) % r = k % r := by
      rw [Int.sub_emod, Int.add_emod, Int.emod_emod]
      rw [← Int.add_emod, ← Int.sub_emod]
      congr 1
      omega
    rw [this, Int.emod_eq_of_lt h0 h1]
  · rw [e, Int.add_emod, Int.emod_emod, ← Int.add_emod, show s + (n - s) = n by omega, Int.emod_eq_of_lt hn1 hn2]
end Go.Proofs.Ythkpalfpohhmoaa
