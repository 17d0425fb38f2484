/- Package duty: what the calls of a plan answer, and what the document's own reckoning of them answers. -/
import Derived.Test.YthkpalfpohhmoaaFxA
import Derived.Test.YthkpalfpohhmoaaPtr
import Derived.Test.YthkpalfpohhmoaaTurn
namespace Go.Proofs.Ythkpalfpohhmoaa
open Go.RowKit
set_option linter.unusedSimpArgs false
set_option linter.unusedVariables false

/-- Can a plan be? -/
structure Can (r o n : Int) : Prop where
  r1 : 1 ≤ r
  r2 : r ≤ 64
  o1 : 1 ≤ o
  o2 : o ≤ r
  n1 : 0 ≤ n
  n2 : n < r
theorem not_can {r o n : Int} (h : ¬ Can r o n) : r < 1 ∨ (1 ≤ r ∧ 64 < r) ∨ (1 ≤ r ∧ r ≤ 64 ∧ o < 1) ∨ (1 ≤ r ∧ r ≤ 64 ∧ 1 ≤ o ∧ r < o) ∨ (1 ≤ r ∧ r ≤ 64 ∧ 1 ≤ o ∧ o ≤ r ∧ n < 0) ∨ (1 ≤ r ∧ r ≤ 64 ∧ 1 ≤ o ∧ o ≤ r ∧ 0 ≤ n ∧ r ≤ n) := by
  refine Classical.byContradiction fun g => h ⟨by omega, by omega, by omega, by omega, by omega, by omega⟩
/-- How far a time is into its round. -/
def phaseV (r t : Int) : Int := t % (r * 1000)
theorem phase_bd {r : Int} (h1 : 1 ≤ r) (t : Int) : 0 ≤ phaseV r t ∧ phaseV r t < r * 1000 := ⟨Int.emod_nonneg _ (by omega), Int.emod_lt_of_pos _ (by omega)⟩
def mineB (r n s : Int) : Bool := decide (0 ≤ s ∧ s % r = n)
def awakeB (r o t g : Int) : Bool := decide (g < 0 ∨ phaseV r t < o * 1000 + g ∨ r * 1000 - g ≤ phaseV r t)
def restV (r o t : Int) : Int := if phaseV r t < o * 1000 then 0 else r * 1000 - phaseV r t

theorem good_yes (r o n : Int) (w : World) (h : Can r o n) :
    Calls Try.prog 9 #[.agg #[.int .i64 r, .int .i64 o, .int .i64 n]] w fun e w' => e = .returned (.bool true) ∧ Below w.heap.size w w' := by
  obtain ⟨h1, h2, h3, h4, h5, h6⟩ := h
  have d1 : decide (r < 1) = false := decide_eq_false (by omega)
  have d2 : decide (64 < r) = false := decide_eq_false (by omega)
  have c := (Holds.new w 23 #[.int .i64 r, .int .i64 o, .int .i64 n])
  have c0 := c.cell 0
  have c1 := c.cell 1
  have c2 := c.cell 2
  clear c
  go_enter Try.func9, Try.ntmps9
  go_wp2
  go_ret
  exact ⟨rfl, below_alloc _ _⟩
theorem good_no (r o n : Int) (w : World) (h : ¬ Can r o n) :
    Calls Try.prog 9 #[.agg #[.int .i64 r, .int .i64 o, .int .i64 n]] w fun e w' => e = .returned (.bool false) ∧ Below w.heap.size w w' := by
  have c := (Holds.new w 23 #[.int .i64 r, .int .i64 o, .int .i64 n])
  have c0 := c.cell 0
  have c1 := c.cell 1
  have c2 := c.cell 2
  clear c
  rcases not_can h with h1 | ⟨h1, h2⟩ | ⟨h1, h2, h3⟩ | ⟨h1, h2, h3, h4⟩ | ⟨h1, h2, h3, h4, h5⟩ | ⟨h1, h2, h3, h4, h5, h6⟩
  all_goals
    clear h
    try have d1 : decide (r < 1) = false := decide_eq_false (by omega)
    try have d2 : decide (64 < r) = false := decide_eq_false (by omega)
    try have d3 : decide (1 ≤ o) = false := decide_eq_false (by omega)
    try have d4 : decide (o ≤ r) = false := decide_eq_false (by omega)
    try have d5 : decide (0 ≤ n) = false := decide_eq_false (by omega)
    try have d6 : decide (n < r) = false := decide_eq_false (by omega)
    go_enter Try.func9, Try.ntmps9
    go_wp2
    go_ret
    exact ⟨rfl, below_alloc _ _⟩
theorem rgood_yes (r o n : Int) (w : World) (h : Can r o n) :
    Calls Try.prog 8 #[.agg #[.int .i64 r, .int .i64 o, .int .i64 n]] w fun e w' => e = .returned (.bool true) ∧ Below w.heap.size w w' := by
  obtain ⟨h1, h2, h3, h4, h5, h6⟩ := h
  have c := (Holds.new w 25 #[.int .i64 r, .int .i64 o, .int .i64 n])
  have c0 := c.cell 0
  have c1 := c.cell 1
  have c2 := c.cell 2
  clear c
  go_enter Try.func8, Try.ntmps8
  go_wp2
  go_ret
  exact ⟨rfl, below_alloc _ _⟩
theorem rgood_no (r o n : Int) (w : World) (h : ¬ Can r o n) :
    Calls Try.prog 8 #[.agg #[.int .i64 r, .int .i64 o, .int .i64 n]] w fun e w' => e = .returned (.bool false) ∧ Below w.heap.size w w' := by
  have c := (Holds.new w 25 #[.int .i64 r, .int .i64 o, .int .i64 n])
  have c0 := c.cell 0
  have c1 := c.cell 1
  have c2 := c.cell 2
  clear c
  rcases not_can h with h1 | ⟨h1, h2⟩ | ⟨h1, h2, h3⟩ | ⟨h1, h2, h3, h4⟩ | ⟨h1, h2, h3, h4, h5⟩ | ⟨h1, h2, h3, h4, h5, h6⟩
  all_goals
    clear h
    try have d1 : decide (1 ≤ r) = false := decide_eq_false (by omega)
    try have d2 : decide (r ≤ 64) = false := decide_eq_false (by omega)
    try have d3 : decide (1 ≤ o) = false := decide_eq_false (by omega)
    try have d4 : decide (o ≤ r) = false := decide_eq_false (by omega)
    try have d5 : decide (0 ≤ n) = false := decide_eq_false (by omega)
    try have d6 : decide (n < r) = false := decide_eq_false (by omega)
    go_enter Try.func8, Try.ntmps8
    go_wp2
    go_ret
    exact ⟨rfl, below_alloc _ _⟩
theorem ticks_any (r o n : Int) (w : World) (h1 : 1 ≤ r) (h2 : r ≤ 64) :
    Calls Try.prog 15 #[.agg #[.int .i64 r, .int .i64 o, .int .i64 n]] w fun e w' => e = .returned (.int .i64 (r * 1000)) ∧ Below w.heap.size w w' := by
  have c := (Holds.new w 23 #[.int .i64 r, .int .i64 o, .int .i64 n])
  have c0 := c.cell 0
  clear c
  go_enter Try.func15, Try.ntmps15
  go_wp2
  go_ret
  exact ⟨rfl, below_alloc _ _⟩
theorem open_any (r o n : Int) (w : World) (h1 : 1 ≤ o) (h2 : o ≤ 64) :
    Calls Try.prog 18 #[.agg #[.int .i64 r, .int .i64 o, .int .i64 n]] w fun e w' => e = .returned (.int .i64 (o * 1000)) ∧ Below w.heap.size w w' := by
  have c := (Holds.new w 23 #[.int .i64 r, .int .i64 o, .int .i64 n])
  have c0 := c.cell 1
  clear c
  go_enter Try.func18, Try.ntmps18
  go_wp2
  go_ret
  exact ⟨rfl, below_alloc _ _⟩
theorem phase_any (r o n t : Int) (w : World) (h1 : 1 ≤ r) (h2 : r ≤ 64) (ht : Fits t) :
    Calls Try.prog 16 #[.agg #[.int .i64 r, .int .i64 o, .int .i64 n], .int .i64 t] w fun e w' => e = .returned (.int .i64 (phaseV r t)) ∧ Below w.heap.size w w' := by
  have c := (Holds.new w 23 #[.int .i64 r, .int .i64 o, .int .i64 n])
  have c0 := c.cell 0
  have c1 := c.cell 1
  have c2 := c.cell 2
  clear c
  go_enter Try.func16, Try.ntmps16
  go_wp2_with (first
    | (go_at_call 15; refine (ticks_any _ _ _ _ h1 h2).mono ?_; rintro e w1 ⟨rfl, hb⟩)
    | (go_at_call 19; refine (floor_yes _ _ _ ht (by omega) (by omega)).mono ?_; rintro e w2 ⟨rfl, m, rfl⟩))
  go_ret
  exact ⟨rfl, below_drewN ((below_alloc _ _).trans (hb.mono (by rw [size_alloc]; omega))) _⟩
end Go.Proofs.Ythkpalfpohhmoaa
