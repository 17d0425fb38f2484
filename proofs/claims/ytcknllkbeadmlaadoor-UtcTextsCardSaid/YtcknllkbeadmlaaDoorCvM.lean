/- Package civil, mathematics: long years, months, the numbers of days, and their order. Nothing here speaks of one program. -/
import Derived.Test.YtcknllkbeadmlaaDoorLawKit
namespace Go.Proofs.YtcknllkbeadmlaaDoor
set_option linter.unusedSimpArgs false
set_option linter.unusedVariables false

/-- Has a year a day more? -/
def longB (y : Int) : Bool := (decide (y % 4 = 0) && !decide (y % 100 = 0)) || decide (y % 400 = 0)
/-- The days of a month. -/
def daysV (y m : Int) : Int := if m = 4 ∨ m = 6 ∨ m = 9 ∨ m = 11 then 30 else if m = 2 then (if longB y then 29 else 28) else 31
/-- The days of all years ahead of one. -/
def aheadV (y : Int) : Int := 365 * (y - 1) + (y - 1) / 4 - (y - 1) / 100 + (y - 1) / 400
/-- The days of the first k months. -/
def monthsV (y : Int) : Nat → Int
  | 0 => 0
  | k + 1 => monthsV y k + daysV y (k + 1)
/-- Can a date be? -/
structure CanD (y m d : Int) : Prop where
  y1 : 1 ≤ y
  y2 : y ≤ 9999
  m1 : 1 ≤ m
  m2 : m ≤ 12
  d1 : 1 ≤ d
  d2 : d ≤ daysV y m
theorem not_canD {y m d : Int} (h : ¬ CanD y m d) : y < 1 ∨ (1 ≤ y ∧ 9999 < y) ∨ (1 ≤ y ∧ y ≤ 9999 ∧ m < 1) ∨ (1 ≤ y ∧ y ≤ 9999 ∧ 1 ≤ m ∧ 12 < m) ∨ (1 ≤ y ∧ y ≤ 9999 ∧ 1 ≤ m ∧ m ≤ 12 ∧ d < 1) ∨ (1 ≤ y ∧ y ≤ 9999 ∧ 1 ≤ m ∧ m ≤ 12 ∧ 1 ≤ d ∧ daysV y m < d) := by
  refine Classical.byContradiction fun g => h ⟨by omega, by omega, by omega, by omega, by omega, by omega⟩
def goodD (y m d : Int) : Bool := decide (1 ≤ y ∧ y ≤ 9999 ∧ 1 ≤ m ∧ m ≤ 12 ∧ 1 ≤ d ∧ d ≤ daysV y m)
theorem goodD_yes {y m d : Int} (h : CanD y m d) : goodD y m d = true := decide_eq_true ⟨h.y1, h.y2, h.m1, h.m2, h.d1, h.d2⟩
theorem goodD_no {y m d : Int} (h : ¬ CanD y m d) : goodD y m d = false := decide_eq_false fun ⟨a, b, c, e, f, g⟩ => h ⟨a, b, c, e, f, g⟩
/-- A day's number. -/
def numV (y m d : Int) : Int := -719162 + aheadV y + monthsV y (m - 1).toNat + d - 1

theorem days_bd (y m : Int) : 28 ≤ daysV y m ∧ daysV y m ≤ 31 := by unfold daysV; (repeat' split) <;> omega
theorem long_day (y : Int) : aheadV (y + 1) = aheadV y + 365 + (if longB y then 1 else 0) := by
  unfold aheadV longB
  by_cases h4 : y % 4 = 0 <;> by_cases h100 : y % 100 = 0 <;> by_cases h400 : y % 400 = 0 <;> simp [h4, h100, h400] <;> omega
theorem ahead_le {a b : Int} (h : a ≤ b) : aheadV a ≤ aheadV b := by unfold aheadV; omega
theorem ahead_bd {y : Int} (h1 : 1 ≤ y) (h2 : y ≤ 10000) : 0 ≤ aheadV y ∧ aheadV y ≤ 3652059 := by unfold aheadV; omega
theorem feb (y : Int) : daysV y 2 = 28 + (if longB y then 1 else 0) := by
  unfold daysV
  rw [if_neg (by decide), if_pos rfl]
  cases longB y <;> rfl
theorem months_12 (y : Int) : monthsV y 12 = 365 + (if longB y then 1 else 0) := by
  have h := feb y
  simp only [monthsV]
  show 0 + daysV y 1 + daysV y 2 + daysV y 3 + daysV y 4 + daysV y 5 + daysV y 6 + daysV y 7 + daysV y 8 + daysV y 9 + daysV y 10 + daysV y 11 + daysV y 12 = _
  rw [h]
  show 0 + 31 + (28 + (if longB y then 1 else 0)) + 31 + 30 + 31 + 30 + 31 + 31 + 30 + 31 + 30 + 31 = _
  omega
theorem months_next (y : Int) (k : Nat) : monthsV y (k + 1) = monthsV y k + daysV y ((k : Int) + 1) := rfl
theorem months_le (y : Int) {j k : Nat} (h : j ≤ k) : monthsV y j ≤ monthsV y k := by
  induction h with
  | refl => exact Int.le_refl _
  | @step n _ ih =>
    have := days_bd y ((n : Int) + 1)
    rw [Nat.succ_eq_add_one, months_next]
    omega
theorem months_nonneg (y : Int) (k : Nat) : 0 ≤ monthsV y k := months_le y (Nat.zero_le k)
theorem year_full (y : Int) : aheadV y + monthsV y 12 = aheadV (y + 1) := by rw [long_day, months_12]; omega
theorem month_in {m : Int} (h1 : 1 ≤ m) : ((((m - 1).toNat : Nat) : Int)) + 1 = m := by omega
/-- Within its year a day lies behind the months ahead of its own, and not behind its own. -/
theorem day_bd {y m d : Int} (h : CanD y m d) : monthsV y (m - 1).toNat < monthsV y (m - 1).toNat + d ∧ monthsV y (m - 1).toNat + d ≤ monthsV y m.toNat ∧ monthsV y m.toNat ≤ monthsV y 12 := by
  have h1 := h.m1
  have h2 := h.m2
  have h3 := h.d1
  have h4 := h.d2
  have e : m.toNat = (m - 1).toNat + 1 := by omega
  have k := months_next y (m - 1).toNat
  rw [month_in h1] at k
  refine ⟨by omega, ?_, months_le y (by omega)⟩
  rw [e, k]
  omega
theorem num_bd {y m d : Int} (h : CanD y m d) : -719162 ≤ numV y m d ∧ numV y m d ≤ 2932896 := by
  have k := day_bd h
  have f := year_full y
  have a := ahead_bd (y := y) h.y1 (by have := h.y2; omega)
  have b := ahead_bd (y := y + 1) (by have := h.y1; omega) (by have := h.y2; omega)
  have n := months_nonneg y (m - 1).toNat
  have := h.d1
  unfold numV
  omega
/-- Is the first date later? -/
def laterD (a b c x y z : Int) : Bool := decide (x < a) || (decide (a = x) && (decide (y < b) || (decide (b = y) && decide (z < c))))
theorem num_lt {y m d y' m' d' : Int} (h : CanD y m d) (h' : CanD y' m' d') (hl : y < y' ∨ (y = y' ∧ (m < m' ∨ (m = m' ∧ d < d')))) : numV y m d < numV y' m' d' := by
  have k := day_bd h
  have k' := day_bd h'
  have f := year_full y
  have n' := months_nonneg y' (m' - 1).toNat
  unfold numV
  rcases hl with h1 | ⟨rfl, h1 | ⟨rfl, h1⟩⟩
  · have := ahead_le (a := y + 1) (b := y') (by omega)
    have := h'.d1
    omega
  · have := months_le y (j := m.toNat) (k := (m' - 1).toNat) (by have := h.m1; omega)
    have := h'.d1
    omega
  · omega
theorem num_same {y m d y' m' d' : Int} (h : CanD y m d) (h' : CanD y' m' d') (he : numV y m d = numV y' m' d') : y = y' ∧ m = m' ∧ d = d' := by
  refine Classical.byContradiction fun g => ?_
  have t : (y < y' ∨ (y = y' ∧ (m < m' ∨ (m = m' ∧ d < d')))) ∨ (y' < y ∨ (y' = y ∧ (m' < m ∨ (m' = m ∧ d' < d)))) := by omega
  rcases t with t | t
  · have := num_lt h h' t; omega
  · have := num_lt h' h t; omega
/-- The date behind one. -/
def nextD (y m d : Int) : Int × Int × Int := if d + 1 ≤ daysV y m then (y, m, d + 1) else if m + 1 ≤ 12 then (y, m + 1, 1) else (y + 1, 1, 1)
theorem next_num {y m d : Int} (h : CanD y m d) : numV (nextD y m d).1 (nextD y m d).2.1 (nextD y m d).2.2 = numV y m d + 1 := by
  have h1 := h.m1
  have h2 := h.m2
  have h3 := h.d1
  have h4 := h.d2
  have e : m.toNat = (m - 1).toNat + 1 := by omega
  have k := months_next y (m - 1).toNat
  rw [month_in h1, ← e] at k
  have f := year_full y
  unfold nextD numV
  split
  · dsimp only; omega
  · split
    · dsimp only
      have e2 : (m + 1 - 1).toNat = m.toNat := by omega
      rw [e2]
      omega
    · dsimp only
      have e3 : m.toNat = 12 := by omega
      rw [e3] at k
      show -719162 + aheadV (y + 1) + 0 + 1 - 1 = _
      omega
theorem next_can {y m d : Int} (h : CanD y m d) (h9 : ¬ 9999 < (nextD y m d).1) : CanD (nextD y m d).1 (nextD y m d).2.1 (nextD y m d).2.2 := by
  have h1 := h.m1
  have h2 := h.m2
  have h3 := h.d1
  have h4 := h.d2
  have h5 := h.y1
  have h6 := h.y2
  unfold nextD at h9 ⊢
  split
  · exact ⟨h5, h6, h1, h2, by dsimp only; omega, by dsimp only; omega⟩
  · split
    · refine ⟨h5, h6, by dsimp only; omega, by dsimp only; omega, by dsimp only; omega, ?_⟩
      have := days_bd y (m + 1)
      dsimp only
      omega
    · rename_i g1 g2
      rw [if_neg g1, if_neg g2] at h9
      dsimp only at h9
      refine ⟨by dsimp only; omega, by dsimp only; omega, by dsimp only; omega, by dsimp only; omega, by dsimp only; omega, ?_⟩
      have := days_bd (y + 1) 1
      dsimp only
      omega
theorem next_far {y m d : Int} (h : CanD y m d) (h9 : 9999 < (nextD y m d).1) : 2932896 < numV y m d + 1 := by
  have e := next_num h
  unfold nextD at h9 e
  have h6 := h.y2
  split at h9
  · dsimp only at h9; omega
  · split at h9
    · dsimp only at h9; omega
    · rename_i g1 g2
      rw [if_neg g1, if_neg g2] at e
      dsimp only at h9 e
      have e9 : y = 9999 := by omega
      subst e9
      have : numV (9999 + 1) 1 1 = 2932897 := by decide
      omega
end Go.Proofs.YtcknllkbeadmlaaDoor
