/- Maps from one clock's time to another's: plain mathematics. Time goes on; how near it is. -/
import Derived.Test.YtgmeakcfiaopcaaGreatSpI
import Derived.Test.YtgmeakcfiaopcaaGreatSpJ
namespace Go.Proofs.YtgmeakcfiaopcaaGreat
open Go.RowKit
set_option linter.unusedVariables false

/-- A slope as Of answers it: no greater than the greatest (c / e), no less than its opposite. -/
structure SlOk (c e a b : Int) : Prop where
  b1 : 1 ≤ b
  b2 : b ≤ 1125899906842624
  c0 : 0 ≤ c
  c1 : c ≤ 20
  e0 : 990 ≤ e
  e1 : e ≤ 1000
  up : a * e ≤ c * b
  down : -a * e ≤ c * b
theorem of_ok (d : Int) (L : List Ent) : SlOk (2 * dV d) (1000 - dV d) (ofV d L).1 (ofV d L).2 := by
  obtain ⟨v1, v2⟩ := dV_bd d
  obtain ⟨k1, k2, k3, k4, k5⟩ := of_bd d L
  have m1 := Int.mul_le_mul_of_nonneg_right (show (ofV d L).1 ≤ max (ofV d L).1 (-(ofV d L).1) by omega) (show 0 ≤ 1000 - dV d by omega)
  have m2 := Int.mul_le_mul_of_nonneg_right (show -(ofV d L).1 ≤ max (ofV d L).1 (-(ofV d L).1) by omega) (show 0 ≤ 1000 - dV d by omega)
  exact ⟨k1, k2, by omega, by omega, by omega, by omega, by omega, by omega⟩
section
variable {c e a b : Int}
/-- It is less than a whole, on both sides. -/
theorem SlOk.whole (h : SlOk c e a b) : -b ≤ a ∧ a ≤ b := by
  obtain ⟨b1, b2, c0, c1, e0, e1, up, down⟩ := h
  have k := Int.mul_le_mul_of_nonneg_right c1 (show 0 ≤ b by omega)
  constructor
  · refine Classical.byContradiction fun hn => ?_
    have := Int.mul_le_mul (show b + 1 ≤ -a by omega) e0 (by omega) (by omega)
    omega
  · refine Classical.byContradiction fun hn => ?_
    have := Int.mul_le_mul (show b + 1 ≤ a by omega) e0 (by omega) (by omega)
    omega
/-- What it gains in so many ticks, on neither side more than these. -/
theorem SlOk.quot (h : SlOk c e a b) (t : Int) : b * (a * t / b) ≤ a * t ∧ a * t < b * (a * t / b) + b := by
  have hb := h.b1
  have h1 := Int.emod_add_mul_ediv (a * t) b
  have h2 := Int.emod_nonneg (a * t) (show b ≠ 0 by omega)
  have h3 := Int.emod_lt_of_pos (a * t) (show 0 < b by omega)
  omega
theorem SlOk.within (h : SlOk c e a b) (t : Int) : -(if 0 ≤ t then t else -t) ≤ a * t / b ∧ a * t / b ≤ (if 0 ≤ t then t else -t) := by
  obtain ⟨w1, w2⟩ := h.whole
  obtain ⟨q1, q2⟩ := h.quot t
  have hb := h.b1
  obtain ⟨T, hT⟩ : ∃ T, T = if 0 ≤ t then t else -t := ⟨_, rfl⟩
  rw [← hT]
  have hT0 : 0 ≤ T := by rw [hT]; split <;> omega
  have hTt : -T ≤ t ∧ t ≤ T := by rw [hT]; split <;> omega
  obtain ⟨p1, p2⟩ := prod_bd (x := a) (y := t) (m := b) (k := T) ⟨w1, w2⟩ hTt
  generalize a * t / b = q at *
  constructor
  · refine Classical.byContradiction fun hn => ?_
    have := Int.mul_le_mul_of_nonneg_left (show q + 1 ≤ -T by omega) (show 0 ≤ b by omega)
    rw [Int.mul_add, Int.mul_neg] at this
    omega
  · refine Classical.byContradiction fun hn => ?_
    have := Int.mul_le_mul_of_nonneg_left (show T + 1 ≤ q by omega) (show 0 ≤ b by omega)
    rw [Int.mul_add] at this
    omega
theorem SlOk.gain (h : SlOk c e a b) {t : Int} (h1 : -4503599627370496 ≤ t) (h2 : t ≤ 4503599627370496) : gainV a b t = a * t / b := by
  obtain ⟨k1, k2⟩ := h.within t
  unfold gainV
  rw [if_pos]
  refine ⟨h.b1, ?_, ?_⟩
  · split at k1 <;> omega
  · split at k2 <;> omega
/-- Further on by so many ticks: neither back by more than these, nor on by more than the greatest slope gains, and one tick. -/
theorem SlOk.on (h : SlOk c e a b) (t : Int) {n : Int} (hn : 0 ≤ n) : a * t / b - n ≤ a * (t + n) / b ∧ a * (t + n) / b ≤ a * t / b + c * n / e + 1 := by
  obtain ⟨w1, w2⟩ := h.whole
  obtain ⟨q1, q2⟩ := h.quot t
  obtain ⟨r1, r2⟩ := h.quot (t + n)
  have hb := h.b1
  have he : 0 < e := by have := h.e0; omega
  have hd : a * (t + n) = a * t + a * n := by grind
  rw [hd] at r1 r2 ⊢
  have f1 := Int.emod_add_mul_ediv (c * n) e
  have f2 := Int.emod_nonneg (c * n) (show e ≠ 0 by omega)
  have f3 := Int.emod_lt_of_pos (c * n) he
  have an1 : -(b * n) ≤ a * n := by
    have := Int.mul_le_mul_of_nonneg_right w1 hn
    rw [Int.neg_mul] at this
    exact this
  have an2 : a * n * e ≤ c * n * b := by
    have := Int.mul_le_mul_of_nonneg_right h.up hn
    have e1 : a * e * n = a * n * e := by grind
    have e2 : c * b * n = c * n * b := by grind
    omega
  generalize hq : a * t / b = q at *
  generalize hr : (a * t + a * n) / b = r at *
  generalize hF : c * n / e = F at *
  generalize a * t = x at *
  generalize hy : a * n = y at *
  generalize hz : c * n = z at *
  constructor
  · refine Classical.byContradiction fun hc => ?_
    have := Int.mul_le_mul_of_nonneg_left (show r + 1 ≤ q - n by omega) (show 0 ≤ b by omega)
    rw [Int.mul_add, Int.mul_sub] at this
    omega
  · refine Classical.byContradiction fun hc => ?_
    have m1 := Int.mul_le_mul_of_nonneg_left (show q + F + 2 ≤ r by omega) (show 0 ≤ b by omega)
    rw [Int.mul_add, Int.mul_add] at m1
    -- b F + b ≤ y, though y e ≤ z b and z < e F + e
    have m2 : b * F + b < y := by omega
    have m3 := Int.mul_lt_mul_of_pos_right m2 he
    have m4 := Int.mul_le_mul_of_nonneg_right (show z + 1 ≤ e * F + e by omega) (show 0 ≤ b by omega)
    have e3 : (b * F + b) * e = (e * F + e) * b := by grind
    rw [Int.add_mul] at m4
    omega
end
end Go.Proofs.YtgmeakcfiaopcaaGreat
