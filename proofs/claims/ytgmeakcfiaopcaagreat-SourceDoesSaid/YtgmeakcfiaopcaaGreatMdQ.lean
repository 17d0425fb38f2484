/- What MulDiv of the document's reckoning answers, for all numbers of 64 bits; for the seats of later layers. -/
import Derived.Test.YtgmeakcfiaopcaaGreatMdP
namespace Go.Proofs.YtgmeakcfiaopcaaGreat
open Go.RowKit
set_option linter.unusedVariables false
theorem below_then {a b c : World} (h : Below a.heap.size a b) (g : Below b.heap.size b c) : Below a.heap.size a c := h.trans (g.mono h.size)
theorem mod_small (x : Int) (h : 0 ≤ x) (h' : x < 18446744073709551616) : x % 18446744073709551616 = x := Int.emod_eq_of_lt h h'
theorem rmd_N (a b c A B P : Int) (w : World) (ha : Fits a) (hb : Fits b) (h1 : 1 ≤ c) (h2 : c ≤ 9223372036854775807) (hA : sizeV a = A) (hB : sizeV b = B) (hP : A * B = P) (hA0 : 0 ≤ A) (hA1 : A ≤ 9223372036854775808) (hB0 : 0 ≤ B) (hB1 : B ≤ 9223372036854775808) (hq0 : 0 ≤ P / c) (hr0 : 0 ≤ P % c) (hr1 : P % c < c) (k0 : 18446744073709551616 ≤ P / c) : Calls Tryz.prog 99 #[.int .i64 a, .int .i64 b, .int .i64 c] w fun e w' => e = .returned (.tuple #[.int .i64 (0), .bool false]) ∧ Below w.heap.size w w' := by
  have hf : decide (P / c < 18446744073709551616) = false := decide_eq_false (by omega)
  · go_enter Tryz.func99, Tryz.ntmps99
    go_wp2_with (first
      | (go_at_call 106; refine (rsize_any _ _ (by assumption)).mono ?_; rintro e w' ⟨rfl, rfl⟩)
      | (go_at_call 105; refine (times_any A B _ hA0 hA1 hB0 hB1).mono ?_; rintro e w1 ⟨p0, p1, p2, p3, ⟨g0, g1, g2, g3, g4⟩, rfl, hg1⟩)
      | (go_at_call 104; refine (over_any p0 p1 p2 p3 c _ (by assumption) (by assumption) (by assumption) (by assumption) h1 h2).mono ?_; rintro e w2 ⟨rfl, hg2⟩))
    all_goals (go_ret2; exact ⟨rfl, below_then hg1 hg2⟩)
theorem rmd_S1 (a b c A B P : Int) (w : World) (ha : Fits a) (hb : Fits b) (h1 : 1 ≤ c) (h2 : c ≤ 9223372036854775807) (hA : sizeV a = A) (hB : sizeV b = B) (hP : A * B = P) (hA0 : 0 ≤ A) (hA1 : A ≤ 9223372036854775808) (hB0 : 0 ≤ B) (hB1 : B ≤ 9223372036854775808) (hq0 : 0 ≤ P / c) (hr0 : 0 ≤ P % c) (hr1 : P % c < c) (k0 : (a < 0 ↔ b < 0)) (k1 : P / c ≤ 9223372036854775807) : Calls Tryz.prog 99 #[.int .i64 a, .int .i64 b, .int .i64 c] w fun e w' => e = .returned (.tuple #[.int .i64 (P / c), .bool true]) ∧ Below w.heap.size w w' := by
  have hf : decide (P / c < 18446744073709551616) = true := decide_eq_true (by omega)
  have hm := mod_small (P / c) hq0 (by omega)
  by_cases n1 : a < 0 <;> by_cases n2 : b < 0
  all_goals first | (exfalso; omega) | skip
  all_goals
    clear k0
    try have d1 : decide (a < 0) = false := decide_eq_false (by omega)
    try have d2 : decide (b < 0) = false := decide_eq_false (by omega)
    go_enter Tryz.func99, Tryz.ntmps99
    go_wp2_with (first
      | (go_at_call 106; refine (rsize_any _ _ (by assumption)).mono ?_; rintro e w' ⟨rfl, rfl⟩)
      | (go_at_call 105; refine (times_any A B _ hA0 hA1 hB0 hB1).mono ?_; rintro e w1 ⟨p0, p1, p2, p3, ⟨g0, g1, g2, g3, g4⟩, rfl, hg1⟩)
      | (go_at_call 104; refine (over_any p0 p1 p2 p3 c _ (by assumption) (by assumption) (by assumption) (by assumption) h1 h2).mono ?_; rintro e w2 ⟨rfl, hg2⟩))
    all_goals (go_ret2; exact ⟨rfl, below_then hg1 hg2⟩)
theorem rmd_S2 (a b c A B P : Int) (w : World) (ha : Fits a) (hb : Fits b) (h1 : 1 ≤ c) (h2 : c ≤ 9223372036854775807) (hA : sizeV a = A) (hB : sizeV b = B) (hP : A * B = P) (hA0 : 0 ≤ A) (hA1 : A ≤ 9223372036854775808) (hB0 : 0 ≤ B) (hB1 : B ≤ 9223372036854775808) (hq0 : 0 ≤ P / c) (hr0 : 0 ≤ P % c) (hr1 : P % c < c) (k0 : (a < 0 ↔ b < 0)) (k1 : 9223372036854775807 < P / c) (k2 : P / c < 18446744073709551616) : Calls Tryz.prog 99 #[.int .i64 a, .int .i64 b, .int .i64 c] w fun e w' => e = .returned (.tuple #[.int .i64 (0), .bool false]) ∧ Below w.heap.size w w' := by
  have hf : decide (P / c < 18446744073709551616) = true := decide_eq_true (by omega)
  have hm := mod_small (P / c) hq0 (by omega)
  by_cases n1 : a < 0 <;> by_cases n2 : b < 0
  all_goals first | (exfalso; omega) | skip
  all_goals
    clear k0
    try have d1 : decide (a < 0) = false := decide_eq_false (by omega)
    try have d2 : decide (b < 0) = false := decide_eq_false (by omega)
    go_enter Tryz.func99, Tryz.ntmps99
    go_wp2_with (first
      | (go_at_call 106; refine (rsize_any _ _ (by assumption)).mono ?_; rintro e w' ⟨rfl, rfl⟩)
      | (go_at_call 105; refine (times_any A B _ hA0 hA1 hB0 hB1).mono ?_; rintro e w1 ⟨p0, p1, p2, p3, ⟨g0, g1, g2, g3, g4⟩, rfl, hg1⟩)
      | (go_at_call 104; refine (over_any p0 p1 p2 p3 c _ (by assumption) (by assumption) (by assumption) (by assumption) h1 h2).mono ?_; rintro e w2 ⟨rfl, hg2⟩))
    all_goals (go_ret2; exact ⟨rfl, below_then hg1 hg2⟩)
theorem rmd_D0 (a b c A B P : Int) (w : World) (ha : Fits a) (hb : Fits b) (h1 : 1 ≤ c) (h2 : c ≤ 9223372036854775807) (hA : sizeV a = A) (hB : sizeV b = B) (hP : A * B = P) (hA0 : 0 ≤ A) (hA1 : A ≤ 9223372036854775808) (hB0 : 0 ≤ B) (hB1 : B ≤ 9223372036854775808) (hq0 : 0 ≤ P / c) (hr0 : 0 ≤ P % c) (hr1 : P % c < c) (k0 : ¬ (a < 0 ↔ b < 0)) (k1 : P / c = 0) (k2 : P % c = 0) : Calls Tryz.prog 99 #[.int .i64 a, .int .i64 b, .int .i64 c] w fun e w' => e = .returned (.tuple #[.int .i64 (0), .bool true]) ∧ Below w.heap.size w w' := by
  have hf : decide (P / c < 18446744073709551616) = true := decide_eq_true (by omega)
  have hm := mod_small (P / c) hq0 (by omega)
  by_cases n1 : a < 0 <;> by_cases n2 : b < 0
  all_goals first | (exfalso; omega) | skip
  all_goals
    clear k0
    try have d1 : decide (a < 0) = false := decide_eq_false (by omega)
    try have d2 : decide (b < 0) = false := decide_eq_false (by omega)
    go_enter Tryz.func99, Tryz.ntmps99
    go_wp2_with (first
      | (go_at_call 106; refine (rsize_any _ _ (by assumption)).mono ?_; rintro e w' ⟨rfl, rfl⟩)
      | (go_at_call 105; refine (times_any A B _ hA0 hA1 hB0 hB1).mono ?_; rintro e w1 ⟨p0, p1, p2, p3, ⟨g0, g1, g2, g3, g4⟩, rfl, hg1⟩)
      | (go_at_call 104; refine (over_any p0 p1 p2 p3 c _ (by assumption) (by assumption) (by assumption) (by assumption) h1 h2).mono ?_; rintro e w2 ⟨rfl, hg2⟩))
    all_goals (go_ret2; exact ⟨rfl, below_then hg1 hg2⟩)
theorem rmd_D1 (a b c A B P : Int) (w : World) (ha : Fits a) (hb : Fits b) (h1 : 1 ≤ c) (h2 : c ≤ 9223372036854775807) (hA : sizeV a = A) (hB : sizeV b = B) (hP : A * B = P) (hA0 : 0 ≤ A) (hA1 : A ≤ 9223372036854775808) (hB0 : 0 ≤ B) (hB1 : B ≤ 9223372036854775808) (hq0 : 0 ≤ P / c) (hr0 : 0 ≤ P % c) (hr1 : P % c < c) (k0 : ¬ (a < 0 ↔ b < 0)) (k1 : 0 < P % c) (k2 : 9223372036854775808 ≤ P / c) (k3 : P / c < 18446744073709551616) : Calls Tryz.prog 99 #[.int .i64 a, .int .i64 b, .int .i64 c] w fun e w' => e = .returned (.tuple #[.int .i64 (0), .bool false]) ∧ Below w.heap.size w w' := by
  have hf : decide (P / c < 18446744073709551616) = true := decide_eq_true (by omega)
  have hm := mod_small (P / c) hq0 (by omega)
  by_cases n1 : a < 0 <;> by_cases n2 : b < 0
  all_goals first | (exfalso; omega) | skip
  all_goals
    clear k0
    try have d1 : decide (a < 0) = false := decide_eq_false (by omega)
    try have d2 : decide (b < 0) = false := decide_eq_false (by omega)
    have d3 : (P % c == 0) = false := by simpa using (show P % c ≠ 0 by omega)
    have d4 : (P % c != 0) = true := by simpa using (show P % c ≠ 0 by omega)
    go_enter Tryz.func99, Tryz.ntmps99
    go_wp2_with (first
      | (go_at_call 106; refine (rsize_any _ _ (by assumption)).mono ?_; rintro e w' ⟨rfl, rfl⟩)
      | (go_at_call 105; refine (times_any A B _ hA0 hA1 hB0 hB1).mono ?_; rintro e w1 ⟨p0, p1, p2, p3, ⟨g0, g1, g2, g3, g4⟩, rfl, hg1⟩)
      | (go_at_call 104; refine (over_any p0 p1 p2 p3 c _ (by assumption) (by assumption) (by assumption) (by assumption) h1 h2).mono ?_; rintro e w2 ⟨rfl, hg2⟩))
    all_goals (go_ret2; exact ⟨rfl, below_then hg1 hg2⟩)
theorem rmd_D2 (a b c A B P : Int) (w : World) (ha : Fits a) (hb : Fits b) (h1 : 1 ≤ c) (h2 : c ≤ 9223372036854775807) (hA : sizeV a = A) (hB : sizeV b = B) (hP : A * B = P) (hA0 : 0 ≤ A) (hA1 : A ≤ 9223372036854775808) (hB0 : 0 ≤ B) (hB1 : B ≤ 9223372036854775808) (hq0 : 0 ≤ P / c) (hr0 : 0 ≤ P % c) (hr1 : P % c < c) (k0 : ¬ (a < 0 ↔ b < 0)) (k1 : 0 < P % c) (k2 : P / c < 9223372036854775808) : Calls Tryz.prog 99 #[.int .i64 a, .int .i64 b, .int .i64 c] w fun e w' => e = .returned (.tuple #[.int .i64 (-(P / c) - 1), .bool true]) ∧ Below w.heap.size w w' := by
  have hf : decide (P / c < 18446744073709551616) = true := decide_eq_true (by omega)
  have hm := mod_small (P / c) hq0 (by omega)
  by_cases n1 : a < 0 <;> by_cases n2 : b < 0
  all_goals first | (exfalso; omega) | skip
  all_goals
    clear k0
    try have d1 : decide (a < 0) = false := decide_eq_false (by omega)
    try have d2 : decide (b < 0) = false := decide_eq_false (by omega)
    have d3 : (P % c == 0) = false := by simpa using (show P % c ≠ 0 by omega)
    have d4 : (P % c != 0) = true := by simpa using (show P % c ≠ 0 by omega)
    go_enter Tryz.func99, Tryz.ntmps99
    go_wp2_with (first
      | (go_at_call 106; refine (rsize_any _ _ (by assumption)).mono ?_; rintro e w' ⟨rfl, rfl⟩)
      | (go_at_call 105; refine (times_any A B _ hA0 hA1 hB0 hB1).mono ?_; rintro e w1 ⟨p0, p1, p2, p3, ⟨g0, g1, g2, g3, g4⟩, rfl, hg1⟩)
      | (go_at_call 104; refine (over_any p0 p1 p2 p3 c _ (by assumption) (by assumption) (by assumption) (by assumption) h1 h2).mono ?_; rintro e w2 ⟨rfl, hg2⟩))
    all_goals (go_ret2; exact ⟨ret_ib (by omega) rfl, below_then hg1 hg2⟩)
theorem rmd_D3 (a b c A B P : Int) (w : World) (ha : Fits a) (hb : Fits b) (h1 : 1 ≤ c) (h2 : c ≤ 9223372036854775807) (hA : sizeV a = A) (hB : sizeV b = B) (hP : A * B = P) (hA0 : 0 ≤ A) (hA1 : A ≤ 9223372036854775808) (hB0 : 0 ≤ B) (hB1 : B ≤ 9223372036854775808) (hq0 : 0 ≤ P / c) (hr0 : 0 ≤ P % c) (hr1 : P % c < c) (k0 : ¬ (a < 0 ↔ b < 0)) (k1 : P % c = 0) (k2 : 9223372036854775808 < P / c) (k3 : P / c < 18446744073709551616) : Calls Tryz.prog 99 #[.int .i64 a, .int .i64 b, .int .i64 c] w fun e w' => e = .returned (.tuple #[.int .i64 (0), .bool false]) ∧ Below w.heap.size w w' := by
  have hf : decide (P / c < 18446744073709551616) = true := decide_eq_true (by omega)
  have hm := mod_small (P / c) hq0 (by omega)
  by_cases n1 : a < 0 <;> by_cases n2 : b < 0
  all_goals first | (exfalso; omega) | skip
  all_goals
    clear k0
    try have d1 : decide (a < 0) = false := decide_eq_false (by omega)
    try have d2 : decide (b < 0) = false := decide_eq_false (by omega)
    have d3 : (P / c == 0) = false := by simpa using (show P / c ≠ 0 by omega)
    go_enter Tryz.func99, Tryz.ntmps99
    go_wp2_with (first
      | (go_at_call 106; refine (rsize_any _ _ (by assumption)).mono ?_; rintro e w' ⟨rfl, rfl⟩)
      | (go_at_call 105; refine (times_any A B _ hA0 hA1 hB0 hB1).mono ?_; rintro e w1 ⟨p0, p1, p2, p3, ⟨g0, g1, g2, g3, g4⟩, rfl, hg1⟩)
      | (go_at_call 104; refine (over_any p0 p1 p2 p3 c _ (by assumption) (by assumption) (by assumption) (by assumption) h1 h2).mono ?_; rintro e w2 ⟨rfl, hg2⟩))
    all_goals (go_ret2; exact ⟨rfl, below_then hg1 hg2⟩)
theorem rmd_D4 (a b c A B P : Int) (w : World) (ha : Fits a) (hb : Fits b) (h1 : 1 ≤ c) (h2 : c ≤ 9223372036854775807) (hA : sizeV a = A) (hB : sizeV b = B) (hP : A * B = P) (hA0 : 0 ≤ A) (hA1 : A ≤ 9223372036854775808) (hB0 : 0 ≤ B) (hB1 : B ≤ 9223372036854775808) (hq0 : 0 ≤ P / c) (hr0 : 0 ≤ P % c) (hr1 : P % c < c) (k0 : ¬ (a < 0 ↔ b < 0)) (k1 : P % c = 0) (k2 : 1 ≤ P / c) (k3 : P / c ≤ 9223372036854775808) : Calls Tryz.prog 99 #[.int .i64 a, .int .i64 b, .int .i64 c] w fun e w' => e = .returned (.tuple #[.int .i64 (-(P / c)), .bool true]) ∧ Below w.heap.size w w' := by
  have hf : decide (P / c < 18446744073709551616) = true := decide_eq_true (by omega)
  have hm := mod_small (P / c) hq0 (by omega)
  by_cases n1 : a < 0 <;> by_cases n2 : b < 0
  all_goals first | (exfalso; omega) | skip
  all_goals
    clear k0
    try have d1 : decide (a < 0) = false := decide_eq_false (by omega)
    try have d2 : decide (b < 0) = false := decide_eq_false (by omega)
    have d3 : (P / c == 0) = false := by simpa using (show P / c ≠ 0 by omega)
    go_enter Tryz.func99, Tryz.ntmps99
    go_wp2_with (first
      | (go_at_call 106; refine (rsize_any _ _ (by assumption)).mono ?_; rintro e w' ⟨rfl, rfl⟩)
      | (go_at_call 105; refine (times_any A B _ hA0 hA1 hB0 hB1).mono ?_; rintro e w1 ⟨p0, p1, p2, p3, ⟨g0, g1, g2, g3, g4⟩, rfl, hg1⟩)
      | (go_at_call 104; refine (over_any p0 p1 p2 p3 c _ (by assumption) (by assumption) (by assumption) (by assumption) h1 h2).mono ?_; rintro e w2 ⟨rfl, hg2⟩))
    all_goals (go_ret2; exact ⟨ret_ib (by omega) rfl, below_then hg1 hg2⟩)
theorem rmuldiv_bad (a b c : Int) (w : World) (hc : c < 1) :
    Calls Tryz.prog 99 #[.int .i64 a, .int .i64 b, .int .i64 c] w fun e w' => e = .returned (.tuple #[.int .i64 0, .bool false]) ∧ Below w.heap.size w w' := by
  go_enter Tryz.func99, Tryz.ntmps99
  go_wp2
  go_ret2
  exact ⟨rfl, Below.refl _ _⟩
theorem rmuldiv_yes (a b c : Int) (w : World) (ha : Fits a) (hb : Fits b) (h1 : 1 ≤ c) (h2 : c ≤ 9223372036854775807) (h : Fits (a * b / c)) :
    Calls Tryz.prog 99 #[.int .i64 a, .int .i64 b, .int .i64 c] w fun e w' => e = .returned (.tuple #[.int .i64 (a * b / c), .bool true]) ∧ Below w.heap.size w w' := by
  obtain ⟨A0, A1⟩ := size_bd a ha
  obtain ⟨B0, B1⟩ := size_bd b hb
  have P0 := Int.mul_nonneg A0 B0
  have e := size_mul a b
  have hd := neg_ediv_down (sizeV a * sizeV b) c (by omega)
  obtain ⟨P, hP⟩ : ∃ P, sizeV a * sizeV b = P := ⟨_, rfl⟩
  rw [hP] at e hd P0
  have m0 := Int.emod_nonneg P (show c ≠ 0 by omega)
  have m1 := Int.emod_lt_of_pos P (show 0 < c by omega)
  have q0 : 0 ≤ P / c := Int.ediv_nonneg P0 (by omega)
  obtain ⟨f1, f2⟩ := h
  by_cases s : (a < 0 ↔ b < 0)
  · rw [if_pos (propext s)] at e
    rw [← e] at f1 f2 ⊢
    exact rmd_S1 a b c _ _ P w ha hb h1 h2 rfl rfl hP A0 A1 B0 B1 q0 m0 m1 s f2
  · rw [if_neg (fun x => s (iff_of_eq x))] at e
    have e2 : a * b = -P := by omega
    rw [e2] at f1 f2 ⊢
    by_cases r : P % c = 0
    · rw [if_pos r] at hd
      by_cases z : P / c = 0
      · rw [hd, z]
        exact rmd_D0 a b c _ _ P w ha hb h1 h2 rfl rfl hP A0 A1 B0 B1 q0 m0 m1 s z r
      · rw [hd]
        exact rmd_D4 a b c _ _ P w ha hb h1 h2 rfl rfl hP A0 A1 B0 B1 q0 m0 m1 s r (by omega) (by omega)
    · rw [if_neg r] at hd
      rw [hd]
      exact rmd_D2 a b c _ _ P w ha hb h1 h2 rfl rfl hP A0 A1 B0 B1 q0 m0 m1 s (by omega) (by omega)
theorem rmuldiv_no (a b c : Int) (w : World) (ha : Fits a) (hb : Fits b) (h1 : 1 ≤ c) (h2 : c ≤ 9223372036854775807) (h : ¬ Fits (a * b / c)) :
    Calls Tryz.prog 99 #[.int .i64 a, .int .i64 b, .int .i64 c] w fun e w' => e = .returned (.tuple #[.int .i64 0, .bool false]) ∧ Below w.heap.size w w' := by
  obtain ⟨A0, A1⟩ := size_bd a ha
  obtain ⟨B0, B1⟩ := size_bd b hb
  have P0 := Int.mul_nonneg A0 B0
  have e := size_mul a b
  have hd := neg_ediv_down (sizeV a * sizeV b) c (by omega)
  obtain ⟨P, hP⟩ : ∃ P, sizeV a * sizeV b = P := ⟨_, rfl⟩
  rw [hP] at e hd P0
  have m0 := Int.emod_nonneg P (show c ≠ 0 by omega)
  have m1 := Int.emod_lt_of_pos P (show 0 < c by omega)
  have q0 : 0 ≤ P / c := Int.ediv_nonneg P0 (by omega)
  unfold Fits at h
  by_cases g : 18446744073709551616 ≤ P / c
  · exact rmd_N a b c _ _ P w ha hb h1 h2 rfl rfl hP A0 A1 B0 B1 q0 m0 m1 g
  by_cases s : (a < 0 ↔ b < 0)
  · rw [if_pos (propext s)] at e
    rw [← e] at h
    exact rmd_S2 a b c _ _ P w ha hb h1 h2 rfl rfl hP A0 A1 B0 B1 q0 m0 m1 s (by omega) (by omega)
  · rw [if_neg (fun x => s (iff_of_eq x))] at e
    have e2 : a * b = -P := by omega
    rw [e2] at h
    by_cases r : P % c = 0
    · rw [if_pos r] at hd
      exact rmd_D3 a b c _ _ P w ha hb h1 h2 rfl rfl hP A0 A1 B0 B1 q0 m0 m1 s r (by omega) (by omega)
    · rw [if_neg r] at hd
      exact rmd_D1 a b c _ _ P w ha hb h1 h2 rfl rfl hP A0 A1 B0 B1 q0 m0 m1 s (by omega) (by omega) (by omega)
end Go.Proofs.YtgmeakcfiaopcaaGreat
