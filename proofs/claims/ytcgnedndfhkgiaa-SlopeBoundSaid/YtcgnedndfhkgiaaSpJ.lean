/- Slopes: how great they may be; on lines; moved; signs. -/
import Derived.Test.YtcgnedndfhkgiaaSpD
namespace Go.Proofs.Ytcgnedndfhkgiaa
open Go.RowKit
set_option linter.unusedVariables false

theorem of_bd (d : Int) (L : List Ent) : 1 ≤ (ofV d L).2 ∧ (ofV d L).2 ≤ 1125899906842624 ∧ -2251799813685248 ≤ (ofV d L).1 ∧ (ofV d L).1 ≤ 2251799813685248 ∧ ¬ 2 * dV d * (ofV d L).2 < max (ofV d L).1 (-(ofV d L).1) * (1000 - dV d) := by
  obtain ⟨v1, v2⟩ := dV_bd d
  by_cases hF : FitsL L
  · by_cases h0 : denV (ptsL L) = 0
    · rw [of_flat h0]
      simp
      omega
    · rw [of_is hF h0]
      obtain ⟨n1, n2, d1, d2⟩ := numden_bd (near_in hF) (fits_len hF)
      generalize numV (ptsL L) = a at *
      generalize denV (ptsL L) = b at *
      obtain ⟨c, hc⟩ : ∃ c, 2 * dV d = c := ⟨_, rfl⟩
      obtain ⟨e, he⟩ : ∃ e, 1000 - dV d = e := ⟨_, rfl⟩
      rw [hc, he]
      obtain ⟨k1, k2, k3⟩ := clamp_bound (a := a) (b := b) (c := c) (d := e) (by omega) (by omega) (by omega)
      have hcl : clampS a b c e = (c, e) ∨ clampS a b c e = (-c, e) ∨ clampS a b c e = (a, b) := by
        unfold clampS
        split
        · exact .inl rfl
        · split
          · exact .inr (.inl rfl)
          · exact .inr (.inr rfl)
      refine ⟨by omega, ?_, ?_, ?_, ?_⟩
      · rcases hcl with h | h | h <;> rw [h] <;> dsimp only <;> omega
      · rcases hcl with h | h | h <;> rw [h] <;> dsimp only <;> omega
      · rcases hcl with h | h | h <;> rw [h] <;> dsimp only <;> omega
      · rcases Int.le_total (clampS a b c e).1 (-(clampS a b c e).1) with h | h
        · rw [Int.max_eq_right h]
          omega
        · rw [Int.max_eq_left h]
          omega
  · rw [of_not hF]
    simp
    omega
end Go.Proofs.Ytcgnedndfhkgiaa
