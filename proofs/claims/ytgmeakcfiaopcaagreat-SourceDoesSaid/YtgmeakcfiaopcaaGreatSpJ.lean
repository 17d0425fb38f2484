/- Slopes: how great they may be; on lines; moved; signs. -/
import Derived.Test.YtgmeakcfiaopcaaGreatSpD
namespace Go.Proofs.YtgmeakcfiaopcaaGreat
open Go.RowKit
set_option linter.unusedVariables false

theorem of_bd (d : Int) (L : List Ent) : 1 ≤ (ofV d L).2 ∧ (ofV d L).2 ≤ 1125899906842624 ∧ -2251799813685248 ≤ (ofV d L).1 ∧ (ofV d L).1 ≤ 2251799813685248 ∧ ¬ 2 * dV d * (ofV d L).2 < max (ofV d L).1 (-(ofV d L).1) * (1000 - dV d) := by
  obtain ⟨v1, v2⟩ := dV_bd d
  by_cases hF : FitsL L
  · by_cases h0 : denV (ptsL L) = 0
    · rw [of_flat h0]
      simp
      omega
    · rw [of_is hF h0]
      obtain ⟨n1, n2, d1, d2⟩ := numden_bd (near_in hF) (fits_len hF)
      generalize numV (ptsL L) = a at *
      generalize denV (ptsL L) = b at *
      obtain ⟨c, hc⟩ : ∃ c, 2 * dV d = c := ⟨_, rfl⟩
      obtain ⟨e, he⟩ : ∃ e, 1000 - dV d = e := ⟨_, rfl⟩
      rw [hc, he]
      obtain ⟨k1, k2, k3⟩ := clamp_bound (a := a) (b := b) (c := c) (d := e) (by omega) (by omega) (by omega)
      have hcl : clampS a b c e = (c, e) ∨ clampS a b c e = (-c, e) ∨ clampS a b c e = (a, b) := by
        unfold clampS
        split
        · exact .inl rfl
        · split
          · exact .inr (.inl rfl)
          · exact .inr (.inr rfl)
      refine ⟨by omega, ?_, ?_, ?_, ?_⟩
      · rcases hcl with h | h | h <;> rw [h] <;> dsimp only <;> omega
      · rcases hcl with h | h | h <;> rw [h] <;> dsimp only <;> omega
      · rcases hcl with h | h | h <;> rw [h] <;> dsimp only <;> omega
      · rcases Int.le_total (clampS a b c e).1 (-(clampS a b c e).1) with h | h
        · rw [Int.max_eq_right h]
          omega
        · rw [Int.max_eq_left h]
          omega
  · rw [of_not hF]
    simp
    omega

/-- One by one the Locals rise. -/
def RiseTo (L : List Ent) (k : Nat) : Prop := ∀ i x y, i + 1 < k → L[i]? = some x → L[i + 1]? = some y → x.1 < y.1
def UpTo (L : List Ent) (k : Nat) : Prop := ∀ i x y, i + 1 < k → L[i]? = some x → L[i + 1]? = some y → x.2.1 ≤ y.2.1
def DownTo (L : List Ent) (k : Nat) : Prop := ∀ i x y, i + 1 < k → L[i]? = some x → L[i + 1]? = some y → y.2.1 ≤ x.2.1
section
variable {L : List Ent} {k : Nat} {x y : Ent}
theorem rise_one : RiseTo L 1 := fun i _ _ h => by omega
theorem up_one : UpTo L 1 := fun i _ _ h => by omega
theorem down_one : DownTo L 1 := fun i _ _ h => by omega
theorem rise_next (h : RiseTo L (k + 1)) (hx : L[k]? = some x) (hy : L[k + 1]? = some y) (hxy : x.1 < y.1) : RiseTo L (k + 1 + 1) := fun i u v hi hu hv => by
  by_cases e : i = k
  · subst e
    rw [hx] at hu
    rw [hy] at hv
    cases hu
    cases hv
    exact hxy
  · exact h i u v (by omega) hu hv
theorem up_next (h : UpTo L (k + 1)) (hx : L[k]? = some x) (hy : L[k + 1]? = some y) (hxy : x.2.1 ≤ y.2.1) : UpTo L (k + 1 + 1) := fun i u v hi hu hv => by
  by_cases e : i = k
  · subst e
    rw [hx] at hu
    rw [hy] at hv
    cases hu
    cases hv
    exact hxy
  · exact h i u v (by omega) hu hv
theorem down_next (h : DownTo L (k + 1)) (hx : L[k]? = some x) (hy : L[k + 1]? = some y) (hxy : y.2.1 ≤ x.2.1) : DownTo L (k + 1 + 1) := fun i u v hi hu hv => by
  by_cases e : i = k
  · subst e
    rw [hx] at hu
    rw [hy] at hv
    cases hu
    cases hv
    exact hxy
  · exact h i u v (by omega) hu hv
end
/-- A relation that holds from each to the next, and goes on, holds from each to all behind it. -/
theorem pairs_of {α : Type} {R : α → α → Prop} (ht : ∀ a b c, R a b → R b c → R a c) {L : List α} (h : ∀ i x y, L[i]? = some x → L[i + 1]? = some y → R x y) : L.Pairwise R := by
  rw [List.pairwise_iff_getElem]
  intro i j hi hj hij
  induction j with
  | zero => omega
  | succ j ih =>
    have hjj : j < L.length := by omega
    have hstep := h j L[j] L[j + 1] (List.getElem?_eq_getElem hjj) (List.getElem?_eq_getElem hj)
    by_cases e : i = j
    · subst e
      exact hstep
    · exact ht _ _ _ (ih hjj (by omega)) hstep
theorem pts_pair {R : Int × Int → Int × Int → Prop} {L : List Ent} (h : L.Pairwise fun x y => R (ptO (headE L) x) (ptO (headE L) y)) : (ptsL L).Pairwise R := by
  unfold ptsL
  exact List.pairwise_map.2 h
theorem clamp_sign_up {a b c d : Int} (hb : 0 ≤ b) (hc : 0 ≤ c) (hd : 0 ≤ d) (ha : 0 ≤ a) : 0 ≤ (clampS a b c d).1 := by
  have h1 := Int.mul_nonneg hc hb
  have h2 := Int.mul_nonneg ha hd
  unfold clampS
  split
  · exact hc
  · split
    · rename_i h
      rw [Int.neg_mul] at h
      omega
    · exact ha
theorem clamp_sign_down {a b c d : Int} (hb : 0 ≤ b) (hc : 0 ≤ c) (hd : 0 ≤ d) (ha : a ≤ 0) : (clampS a b c d).1 ≤ 0 := by
  have h1 := Int.mul_nonneg hc hb
  have h2 := mul_nonpos_of hd ha
  rw [Int.mul_comm] at h2
  unfold clampS
  split
  · omega
  · split
    · show -c ≤ 0
      omega
    · exact ha
theorem of_up (d : Int) {L : List Ent} {n : Nat} (hn : L.length = n) (h1 : RiseTo L n) (h2 : UpTo L n) : 0 ≤ (ofV d L).1 := by
  obtain ⟨v1, v2⟩ := dV_bd d
  by_cases hF : FitsL L
  · by_cases h0 : denV (ptsL L) = 0
    · rw [of_flat h0]; exact Int.le_refl _
    · rw [of_is hF h0]
      refine clamp_sign_up (den_nonneg _ _ rfl) (by omega) (by omega) (num_up _ _ rfl (pts_pair ?_))
      refine pairs_of (R := fun x y => (ptO (headE L) x).1 ≤ (ptO (headE L) y).1 ∧ (ptO (headE L) x).2 ≤ (ptO (headE L) y).2) (fun a b c h h' => ⟨Int.le_trans h.1 h'.1, Int.le_trans h.2 h'.2⟩) (fun i x y hx hy => ?_)
      have hl := (List.getElem?_eq_some_iff.1 hy).1
      have e1 := h1 i x y (by omega) hx hy
      have e2 := h2 i x y (by omega) hx hy
      unfold ptO
      dsimp only
      omega
  · rw [of_not hF]; exact Int.le_refl _
theorem of_down (d : Int) {L : List Ent} {n : Nat} (hn : L.length = n) (h1 : RiseTo L n) (h2 : DownTo L n) : (ofV d L).1 ≤ 0 := by
  obtain ⟨v1, v2⟩ := dV_bd d
  by_cases hF : FitsL L
  · by_cases h0 : denV (ptsL L) = 0
    · rw [of_flat h0]; exact Int.le_refl _
    · rw [of_is hF h0]
      refine clamp_sign_down (den_nonneg _ _ rfl) (by omega) (by omega) (num_down _ _ rfl (pts_pair ?_))
      refine pairs_of (R := fun x y => (ptO (headE L) x).1 ≤ (ptO (headE L) y).1 ∧ (ptO (headE L) y).2 ≤ (ptO (headE L) x).2) (fun a b c h h' => ⟨Int.le_trans h.1 h'.1, Int.le_trans h'.2 h.2⟩) (fun i x y hx hy => ?_)
      have hl := (List.getElem?_eq_some_iff.1 hy).1
      have e1 := h1 i x y (by omega) hx hy
      have e2 := h2 i x y (by omega) hx hy
      unfold ptO
      dsimp only
      omega
  · rw [of_not hF]; exact Int.le_refl _
end Go.Proofs.YtgmeakcfiaopcaaGreat
