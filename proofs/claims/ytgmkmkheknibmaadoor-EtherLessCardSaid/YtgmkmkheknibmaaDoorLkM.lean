/- Package links: sets of 64 bits, their numbers in order. Plain mathematics. -/
import Derived.Lib.TrailingZeros
namespace Go.Proofs.YtgmkmkheknibmaaDoor
open Go

/-- The numbers of a set's bits, rising. -/
def bitsOf (x : Nat) : List Nat := (List.range 64).filter fun j => x.testBit j
theorem mem_bits {x j : Nat} : j ∈ bitsOf x ↔ j < 64 ∧ x.testBit j = true := by simp [bitsOf]
theorem bits_zero : bitsOf 0 = [] := by simp [bitsOf]
theorem bit_lt {x n j : Nat} (hx : x < 2 ^ n) (h : x.testBit j = true) : j < n := by
  rcases Nat.lt_or_ge j n with h1 | h1
  · exact h1
  · rw [Nat.testBit_lt_two_pow (Nat.lt_of_lt_of_le hx (Nat.pow_le_pow_right (by decide) h1))] at h
    cases h
theorem low_form {x : Nat} (h0 : x ≠ 0) (hx : x < 2 ^ 64) : ∃ m, x = 2 ^ Lib.ctz 64 x * (2 * m + 1) ∧ Lib.ctz 64 x < 64 := by
  obtain ⟨m, hm, hk⟩ := Lib.ctzFrom_spec 64 x (by omega) hx
  have e : Lib.ctz 64 x = Lib.ctzFrom 64 x := by simp [Lib.ctz, h0]
  rw [e]
  exact ⟨m, hm, hk⟩
theorem odd_bit (m j : Nat) : (2 * m + 1).testBit j = if j = 0 then true else m.testBit (j - 1) := by
  rcases j with _ | j
  · simp
  · rw [Nat.testBit_succ, show (2 * m + 1) / 2 = m by omega]
    simp
theorem even_bit (m j : Nat) : (2 * m).testBit j = if j = 0 then false else m.testBit (j - 1) := by
  rcases j with _ | j
  · simp
  · rw [Nat.testBit_succ, show (2 * m) / 2 = m by omega]
    simp
theorem pow_bit (k m j : Nat) : (2 ^ k * m).testBit j = (decide (k ≤ j) && m.testBit (j - k)) := by
  rw [Nat.mul_comm, Nat.testBit_mul_two_pow]
theorem cut_bit {x : Nat} (h0 : x ≠ 0) (hx : x < 2 ^ 64) (j : Nat) : (x &&& (x - 1)).testBit j = (x.testBit j && decide (j ≠ Lib.ctz 64 x)) := by
  obtain ⟨m, hm, hk⟩ := low_form h0 hx
  generalize Lib.ctz 64 x = k at *
  have e1 : x.testBit j = (decide (k ≤ j) && (2 * m + 1).testBit (j - k)) := by rw [hm]; exact pow_bit k (2 * m + 1) j
  have hp : 0 < 2 ^ k := Nat.two_pow_pos k
  have e2 : x - 1 = 2 ^ k * (2 * m) + (2 ^ k - 1) := by
    rw [hm, Nat.mul_add, Nat.mul_one]
    omega
  have e3 : (x - 1).testBit j = if j < k then (2 ^ k - 1).testBit j else (2 * m).testBit (j - k) := by
    rw [e2]
    exact Nat.testBit_two_pow_mul_add (2 * m) (by omega) j
  rw [Nat.testBit_and, e1, e3, odd_bit, even_bit]
  by_cases h1 : j < k
  · have : ¬ k ≤ j := by omega
    simp [h1, this]
  · by_cases h2 : j = k
    · subst h2
      simp
    · have h3 : k ≤ j := by omega
      have h4 : ¬ j - k = 0 := by omega
      simp [h1, h2, h3, h4]
theorem low_bit {x : Nat} (h0 : x ≠ 0) (hx : x < 2 ^ 64) : x.testBit (Lib.ctz 64 x) = true ∧ Lib.ctz 64 x < 64 ∧ ∀ j, j < Lib.ctz 64 x → x.testBit j = false := by
  obtain ⟨m, hm, hk⟩ := low_form h0 hx
  generalize Lib.ctz 64 x = k at *
  refine ⟨?_, hk, fun j hj => ?_⟩
  · rw [hm, pow_bit, odd_bit]
    simp
  · rw [hm, pow_bit]
    have : ¬ k ≤ j := by omega
    simp [this]
theorem range_split {n k : Nat} (h : k < n) : List.range n = List.range k ++ k :: List.range' (k + 1) (n - k - 1) := by
  obtain ⟨d, rfl⟩ : ∃ d, n = k + (d + 1) := ⟨n - k - 1, by omega⟩
  rw [List.range_eq_range', List.range_eq_range', ← List.range'_append_1, List.range'_succ, show k + (d + 1) - k - 1 = d by omega, Nat.zero_add]
theorem bits_step {x : Nat} (h0 : x ≠ 0) (hx : x < 2 ^ 64) : bitsOf x = Lib.ctz 64 x :: bitsOf (x &&& (x - 1)) := by
  obtain ⟨h1, h2, h3⟩ := low_bit h0 hx
  have hc := cut_bit h0 hx
  generalize Lib.ctz 64 x = k at *
  generalize x &&& (x - 1) = y at *
  unfold bitsOf
  rw [range_split h2, List.filter_append, List.filter_append, List.filter_cons_of_pos (by simpa using h1), List.filter_cons_of_neg (by simp [hc])]
  have f1 : (List.range k).filter (fun j => x.testBit j) = [] := List.filter_eq_nil_iff.2 (fun j hj => by rw [h3 j (List.mem_range.1 hj)]; decide)
  have f2 : (List.range k).filter (fun j => y.testBit j) = [] := List.filter_eq_nil_iff.2 (fun j hj => by rw [hc, h3 j (List.mem_range.1 hj)]; simp)
  rw [f1, f2, List.nil_append, List.nil_append]
  congr 1
  refine List.filter_congr fun j hj => ?_
  rw [hc]
  have := (List.mem_range'_1.1 hj).1
  have hne : j ≠ k := by omega
  simp [hne]
theorem cut_lt {x : Nat} (h0 : x ≠ 0) : x &&& (x - 1) < x := Nat.lt_of_le_of_lt Nat.and_le_right (by omega)
theorem bits_len (x : Nat) : (bitsOf x).length ≤ 64 := Nat.le_trans (List.length_filter_le _ _) (by simp)
/-- The numbers of a set's bits below k. -/
def bitsTo (x k : Nat) : List Nat := (List.range k).filter fun j => x.testBit j
theorem bitsTo_all (x : Nat) : bitsTo x 64 = bitsOf x := rfl
theorem bitsTo_zero (x : Nat) : bitsTo x 0 = [] := rfl
theorem bitsTo_no {x k : Nat} (h : x.testBit k = false) : bitsTo x (k + 1) = bitsTo x k := by simp [bitsTo, List.range_succ, h]
theorem bitsTo_yes {x k : Nat} (h : x.testBit k = true) : bitsTo x (k + 1) = bitsTo x k ++ [k] := by simp [bitsTo, List.range_succ, h]
theorem bitsTo_len (x k : Nat) : (bitsTo x k).length ≤ k := Nat.le_trans (List.length_filter_le _ _) (by simp)
end Go.Proofs.YtgmkmkheknibmaaDoor
