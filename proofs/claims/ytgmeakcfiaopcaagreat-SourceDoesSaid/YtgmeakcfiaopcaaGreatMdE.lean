/- Package fix, for the seats of later layers: what MulDiv answers, for all numbers of 64 bits. -/
import Derived.Test.YtgmeakcfiaopcaaGreatMdD
namespace Go.Proofs.YtgmeakcfiaopcaaGreat
open Go.RowKit

theorem size_mul (a b : Int) : sizeV a * sizeV b = if (a < 0) = (b < 0) then a * b else -(a * b) := by
  unfold sizeV
  by_cases h1 : a < 0 <;> by_cases h2 : b < 0 <;> simp [h1, h2, Int.neg_mul, Int.mul_neg]
/-- Rounded down, of a product with the other sign. -/
theorem neg_ediv_down (n c : Int) (hc : 0 < c) : (-n) / c = if n % c = 0 then -(n / c) else -(n / c) - 1 := by
  have e := Int.emod_add_mul_ediv n c
  have l := Int.emod_lt_of_pos n hc
  have m := Int.emod_nonneg n (show c ≠ 0 by omega)
  split
  · rename_i h
    have := (Int.ediv_emod_unique (a := -n) (b := c) (r := 0) (q := -(n / c)) hc).2 ⟨by rw [Int.mul_neg]; omega, by omega, hc⟩
    exact this.1
  · have := (Int.ediv_emod_unique (a := -n) (b := c) (r := c - n % c) (q := -(n / c) - 1) hc).2 ⟨by rw [Int.mul_sub, Int.mul_neg]; omega, by omega, by omega⟩
    exact this.1

def downV (q r : Int) : Int := if r = 0 then -q else -q - 1
theorem down_zero (q : Int) (h : 0 ≤ q) (h' : q ≤ 9223372036854775808) : wrap64 (IntKind.u64.wrap (-q)) = -q := by
  rw [wrap_u64]; unfold wrap64; omega
theorem below_yes (q r : Int) (w : World) (q0 : 0 ≤ q) (r0 : 0 ≤ r) (r1 : r ≤ 18446744073709551615) (h : q < 9223372036854775808 ∨ q = 9223372036854775808 ∧ r = 0) :
    Calls Tryz.prog 110 #[.int .u64 q, .int .u64 r] w fun e w' => e = .returned (.tuple #[.int .i64 (downV q r), .bool true]) ∧ w = w' := by
  by_cases c : r = 0
  · subst c
    by_cases c2 : q = 9223372036854775808
    · subst c2
      go_enter Tryz.func110, Tryz.ntmps110
      go_wp2
      go_ret2
      exact ⟨ret_ib (by rw [down_zero _ (by omega) (by omega)]; unfold downV; rw [if_pos rfl]) rfl, rfl⟩
    · have hl : q < 9223372036854775808 := by omega
      have d1 : (q == 9223372036854775808) = false := by simpa using c2
      clear c2 h
      go_enter Tryz.func110, Tryz.ntmps110
      go_wp2
      go_ret2
      exact ⟨ret_ib (by rw [down_zero q (by omega) (by omega)]; unfold downV; rw [if_pos rfl]) rfl, rfl⟩
  · have hl : q < 9223372036854775808 := by omega
    have hr : 0 < r := by omega
    have d1 : (q == 9223372036854775808) = false := by simpa using (show q ≠ 9223372036854775808 by omega)
    have H := Lib.hid c
    clear c h
    go_enter Tryz.func110, Tryz.ntmps110
    go_wp2
    go_ret2
    exact ⟨ret_ib (by rw [down_zero (q + 1) (by omega) (by omega)]; unfold downV; rw [if_neg H.out]; omega) rfl, rfl⟩
theorem below_no (q r : Int) (w : World) (q1 : q ≤ 18446744073709551615) (h : 9223372036854775808 < q ∨ q = 9223372036854775808 ∧ 0 < r) :
    Calls Tryz.prog 110 #[.int .u64 q, .int .u64 r] w fun e w' => e = .returned (.tuple #[.int .i64 0, .bool false]) ∧ w = w' := by
  rcases h with h | ⟨h, h'⟩
  · go_enter Tryz.func110, Tryz.ntmps110
    go_wp2
    go_ret2
    exact ⟨rfl, rfl⟩
  · subst h
    go_enter Tryz.func110, Tryz.ntmps110
    go_wp2
    go_ret2
    exact ⟨rfl, rfl⟩
theorem div64_parts (P c : Int) (w : World) (h0 : 0 ≤ P) (h1 : P / 18446744073709551616 < c) (hc : c ≤ 9223372036854775807) :
    Calls Tryz.prog 109 #[.int .u64 (P / 18446744073709551616), .int .u64 (P % 18446744073709551616), .int .u64 c] w fun e w' => e = .returned (.tuple #[.int .u64 (P / c), .int .u64 (P % c)]) ∧ ∃ n, w' = w.drewN n := by
  have e : P / 18446744073709551616 * 18446744073709551616 + P % 18446744073709551616 = P := by omega
  have := div64_any (P / 18446744073709551616) (P % 18446744073709551616) c w (by omega) h1 (by omega) (by omega) (by omega)
  rw [e] at this
  exact this

theorem muldiv_bad (a b c : Int) (w : World) (hc : c < 1) :
    Calls Tryz.prog 103 #[.int .i64 a, .int .i64 b, .int .i64 c] w fun e w' => e = .returned (.tuple #[.int .i64 0, .bool false]) ∧ ∃ n, w' = w.drewN n := by
  go_enter Tryz.func103, Tryz.ntmps103
  go_wp2
  go_ret2
  exact ⟨rfl, ⟨0, rfl⟩⟩

theorem size_bd (a : Int) (h : Fits a) : 0 ≤ sizeV a ∧ sizeV a ≤ 9223372036854775808 := by
  unfold sizeV
  obtain ⟨h1, h2⟩ := h
  split <;> omega
theorem muldiv_core (a b c A B P : Int) (w : World) (ha : Fits a) (hb : Fits b) (h1 : 1 ≤ c) (h2 : c ≤ 9223372036854775807) (hA : sizeV a = A) (hB : sizeV b = B) (hP : A * B = P) (hA0 : 0 ≤ A) (hA1 : A ≤ 9223372036854775808) (hB0 : 0 ≤ B) (hB1 : B ≤ 9223372036854775808) (hP0 : 0 ≤ P) :
    (c ≤ P / 18446744073709551616 → Calls Tryz.prog 103 #[.int .i64 a, .int .i64 b, .int .i64 c] w fun e w' => e = .returned (.tuple #[.int .i64 0, .bool false]) ∧ ∃ n, w' = w.drewN n) ∧
    (P / 18446744073709551616 < c → (a < 0 ↔ b < 0) → P / c ≤ 9223372036854775807 → Calls Tryz.prog 103 #[.int .i64 a, .int .i64 b, .int .i64 c] w fun e w' => e = .returned (.tuple #[.int .i64 (P / c), .bool true]) ∧ ∃ n, w' = w.drewN n) ∧
    (P / 18446744073709551616 < c → (a < 0 ↔ b < 0) → 9223372036854775807 < P / c → Calls Tryz.prog 103 #[.int .i64 a, .int .i64 b, .int .i64 c] w fun e w' => e = .returned (.tuple #[.int .i64 0, .bool false]) ∧ ∃ n, w' = w.drewN n) ∧
    (P / 18446744073709551616 < c → ¬ (a < 0 ↔ b < 0) → (P / c < 9223372036854775808 ∨ P / c = 9223372036854775808 ∧ P % c = 0) → Calls Tryz.prog 103 #[.int .i64 a, .int .i64 b, .int .i64 c] w fun e w' => e = .returned (.tuple #[.int .i64 (downV (P / c) (P % c)), .bool true]) ∧ ∃ n, w' = w.drewN n) ∧
    (P / 18446744073709551616 < c → ¬ (a < 0 ↔ b < 0) → (9223372036854775808 < P / c ∨ P / c = 9223372036854775808 ∧ 0 < P % c) → Calls Tryz.prog 103 #[.int .i64 a, .int .i64 b, .int .i64 c] w fun e w' => e = .returned (.tuple #[.int .i64 0, .bool false]) ∧ ∃ n, w' = w.drewN n) := by
  have m0 := Int.emod_nonneg P (show c ≠ 0 by omega)
  have m1 := Int.emod_lt_of_pos P (show 0 < c by omega)
  have q0 : 0 ≤ P / c := Int.ediv_nonneg hP0 (by omega)
  refine ⟨fun g => ?_, fun g g2 g3 => ?_, fun g g2 g3 => ?_, fun g g2 g3 => ?_, fun g g2 g3 => ?_⟩
  · go_enter Tryz.func103, Tryz.ntmps103
    go_wp2_with (first
      | (go_at_call 108; refine (size_any _ _ (by assumption)).mono ?_; rintro e w' ⟨rfl, rfl⟩)
      | (go_at_call 107; refine (mul64_any _ _ _ (by omega) (by omega) (by omega) (by omega)).mono ?_; rintro e w' ⟨rfl, rfl⟩))
    go_ret2
    exact ⟨rfl, ⟨0, rfl⟩⟩
  · have hq : P / c < 18446744073709551616 := Int.ediv_lt_of_lt_mul (by omega) (by omega)
    by_cases n1 : a < 0 <;> by_cases n2 : b < 0
    all_goals first | (exfalso; omega) | skip
    all_goals
      clear g2
      try have d1 : decide (a < 0) = false := decide_eq_false (by omega)
      try have d2 : decide (b < 0) = false := decide_eq_false (by omega)
      go_enter Tryz.func103, Tryz.ntmps103
      go_wp2_with (first
        | (go_at_call 108; refine (size_any _ _ (by assumption)).mono ?_; rintro e w' ⟨rfl, rfl⟩)
        | (go_at_call 107; refine (mul64_any _ _ _ (by omega) (by omega) (by omega) (by omega)).mono ?_; rintro e w' ⟨rfl, rfl⟩)
        | (go_at_call 109; refine (div64_parts P c _ hP0 (by omega) h2).mono ?_; rintro e w' ⟨rfl, n, rfl⟩))
      go_ret2
      exact ⟨rfl, ⟨_, rfl⟩⟩
  · have hq : P / c < 18446744073709551616 := Int.ediv_lt_of_lt_mul (by omega) (by omega)
    by_cases n1 : a < 0 <;> by_cases n2 : b < 0
    all_goals first | (exfalso; omega) | skip
    all_goals
      clear g2
      try have d1 : decide (a < 0) = false := decide_eq_false (by omega)
      try have d2 : decide (b < 0) = false := decide_eq_false (by omega)
      go_enter Tryz.func103, Tryz.ntmps103
      go_wp2_with (first
        | (go_at_call 108; refine (size_any _ _ (by assumption)).mono ?_; rintro e w' ⟨rfl, rfl⟩)
        | (go_at_call 107; refine (mul64_any _ _ _ (by omega) (by omega) (by omega) (by omega)).mono ?_; rintro e w' ⟨rfl, rfl⟩)
        | (go_at_call 109; refine (div64_parts P c _ hP0 (by omega) h2).mono ?_; rintro e w' ⟨rfl, n, rfl⟩))
      go_ret2
      exact ⟨rfl, ⟨_, rfl⟩⟩
  · have hq : P / c < 18446744073709551616 := Int.ediv_lt_of_lt_mul (by omega) (by omega)
    have G := Lib.hid g3
    clear g3
    by_cases n1 : a < 0 <;> by_cases n2 : b < 0
    all_goals first | (exfalso; omega) | skip
    all_goals
      clear g2
      try have d1 : decide (a < 0) = false := decide_eq_false (by omega)
      try have d2 : decide (b < 0) = false := decide_eq_false (by omega)
      go_enter Tryz.func103, Tryz.ntmps103
      go_wp2_with (first
        | (go_at_call 108; refine (size_any _ _ (by assumption)).mono ?_; rintro e w' ⟨rfl, rfl⟩)
        | (go_at_call 107; refine (mul64_any _ _ _ (by omega) (by omega) (by omega) (by omega)).mono ?_; rintro e w' ⟨rfl, rfl⟩)
        | (go_at_call 109; refine (div64_parts P c _ hP0 (by omega) h2).mono ?_; rintro e w' ⟨rfl, n, rfl⟩)
        | (go_at_call 110; refine (below_yes _ _ _ q0 m0 (by omega) G.out).mono ?_; rintro e w' ⟨rfl, rfl⟩))
      go_ret2
      exact ⟨rfl, ⟨_, rfl⟩⟩
  · have hq : P / c < 18446744073709551616 := Int.ediv_lt_of_lt_mul (by omega) (by omega)
    have G := Lib.hid g3
    clear g3
    by_cases n1 : a < 0 <;> by_cases n2 : b < 0
    all_goals first | (exfalso; omega) | skip
    all_goals
      clear g2
      try have d1 : decide (a < 0) = false := decide_eq_false (by omega)
      try have d2 : decide (b < 0) = false := decide_eq_false (by omega)
      go_enter Tryz.func103, Tryz.ntmps103
      go_wp2_with (first
        | (go_at_call 108; refine (size_any _ _ (by assumption)).mono ?_; rintro e w' ⟨rfl, rfl⟩)
        | (go_at_call 107; refine (mul64_any _ _ _ (by omega) (by omega) (by omega) (by omega)).mono ?_; rintro e w' ⟨rfl, rfl⟩)
        | (go_at_call 109; refine (div64_parts P c _ hP0 (by omega) h2).mono ?_; rintro e w' ⟨rfl, n, rfl⟩)
        | (go_at_call 110; refine (below_no _ _ _ (by omega) G.out).mono ?_; rintro e w' ⟨rfl, rfl⟩))
      go_ret2
      exact ⟨rfl, ⟨_, rfl⟩⟩
theorem muldiv_yes (a b c : Int) (w : World) (ha : Fits a) (hb : Fits b) (h1 : 1 ≤ c) (h2 : c ≤ 9223372036854775807) (h : Fits (a * b / c)) :
    Calls Tryz.prog 103 #[.int .i64 a, .int .i64 b, .int .i64 c] w fun e w' => e = .returned (.tuple #[.int .i64 (a * b / c), .bool true]) ∧ ∃ n, w' = w.drewN n := by
  obtain ⟨A0, A1⟩ := size_bd a ha
  obtain ⟨B0, B1⟩ := size_bd b hb
  have P0 := Int.mul_nonneg A0 B0
  obtain ⟨q1, q2, q3, q4, q5⟩ := muldiv_core a b c _ _ _ w ha hb h1 h2 rfl rfl rfl A0 A1 B0 B1 P0
  have e := size_mul a b
  have hd := neg_ediv_down (sizeV a * sizeV b) c (by omega)
  generalize sizeV a * sizeV b = P at *
  obtain ⟨f1, f2⟩ := h
  by_cases s : (a < 0 ↔ b < 0)
  · rw [if_pos (propext s)] at e
    rw [← e] at f1 f2 ⊢
    have hP : P < 9223372036854775808 * c := Int.lt_mul_of_ediv_lt (by omega) (by omega)
    exact q2 (by omega) s f2
  · rw [if_neg (fun x => s (iff_of_eq x))] at e
    have e2 : a * b = -P := by omega
    rw [e2] at f1 f2 ⊢
    have m0 := Int.emod_nonneg P (show c ≠ 0 by omega)
    have hq : P / c < 9223372036854775808 ∨ P / c = 9223372036854775808 ∧ P % c = 0 := by split at hd <;> omega
    have hP : P < 9223372036854775809 * c := Int.lt_mul_of_ediv_lt (by omega) (by omega)
    have := q4 (by omega) s hq
    rw [hd]
    exact this
theorem muldiv_no (a b c : Int) (w : World) (ha : Fits a) (hb : Fits b) (h1 : 1 ≤ c) (h2 : c ≤ 9223372036854775807) (h : ¬ Fits (a * b / c)) :
    Calls Tryz.prog 103 #[.int .i64 a, .int .i64 b, .int .i64 c] w fun e w' => e = .returned (.tuple #[.int .i64 0, .bool false]) ∧ ∃ n, w' = w.drewN n := by
  obtain ⟨A0, A1⟩ := size_bd a ha
  obtain ⟨B0, B1⟩ := size_bd b hb
  have P0 := Int.mul_nonneg A0 B0
  obtain ⟨q1, q2, q3, q4, q5⟩ := muldiv_core a b c _ _ _ w ha hb h1 h2 rfl rfl rfl A0 A1 B0 B1 P0
  have e := size_mul a b
  have hd := neg_ediv_down (sizeV a * sizeV b) c (by omega)
  generalize sizeV a * sizeV b = P at *
  by_cases g : c ≤ P / 18446744073709551616
  · exact q1 g
  have p0 : 0 ≤ P / c := Int.ediv_nonneg P0 (by omega)
  unfold Fits at h
  by_cases s : (a < 0 ↔ b < 0)
  · rw [if_pos (propext s)] at e
    rw [← e] at h
    exact q3 (by omega) s (by omega)
  · rw [if_neg (fun x => s (iff_of_eq x))] at e
    have e2 : a * b = -P := by omega
    rw [e2] at h
    have m0 := Int.emod_nonneg P (show c ≠ 0 by omega)
    exact q5 (by omega) s (by split at hd <;> omega)
end Go.Proofs.YtgmeakcfiaopcaaGreat
