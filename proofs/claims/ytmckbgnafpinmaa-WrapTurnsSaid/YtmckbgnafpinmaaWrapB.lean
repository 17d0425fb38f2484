/- The mathematics of numbers that go round: half the way round by exclusive or; differences one behind the other. -/
import Derived.Test.YtmckbgnafpinmaaWrapA
import Derived.Laws.BitsAllLaws
namespace Go.Proofs.Ytmckbgnafpinmaa
open Go.RowKit

theorem xor_low (k a : Nat) (h : a < 2 ^ k) : a ^^^ 2 ^ k = a + 2 ^ k := by
  apply Nat.eq_of_testBit_eq
  intro i
  rw [Nat.testBit_xor, Nat.testBit_two_pow, Nat.add_comm a]
  rcases Nat.lt_trichotomy i k with hi | hi | hi
  · rw [Nat.testBit_two_pow_add_gt hi]
    simp [show ¬ k = i by omega]
  · subst hi
    rw [Nat.testBit_two_pow_add_eq]
    simp
  · have h1 : 2 ^ k + a < 2 ^ i := by
      have h2 : 2 ^ (k + 1) ≤ 2 ^ i := Nat.pow_le_pow_right (by omega) (by omega)
      rw [Nat.pow_succ] at h2
      omega
    have h3 : 2 ^ k > 0 := Nat.two_pow_pos k
    rw [Nat.testBit_lt_two_pow h1, Nat.testBit_lt_two_pow (show a < 2 ^ i by omega)]
    simp [show ¬ k = i by omega]
theorem xor_high (k a : Nat) (h : a < 2 ^ k) : (a + 2 ^ k) ^^^ 2 ^ k = a := by
  rw [← xor_low k a h, Nat.xor_assoc, Nat.xor_self, Nat.xor_zero]
theorem xor16 (a : Int) (h : F16 a) : bits .xor .u16 a 32768 = (a + 32768) % 65536 := by
  obtain ⟨h1, h2⟩ := h
  rw [u16_xor a 32768 h1 (by omega) (by omega) (by omega)]
  by_cases c : a < 32768
  · have := xor_low 15 a.toNat (by omega)
    simp only [Int.reduceToNat]
    rw [show (32768 : Nat) = 2 ^ 15 by decide, this]
    omega
  · have := xor_high 15 (a.toNat - 32768) (by omega)
    rw [show a.toNat - 32768 + 2 ^ 15 = a.toNat by omega] at this
    simp only [Int.reduceToNat]
    rw [show (32768 : Nat) = 2 ^ 15 by decide, this]
    omega
theorem xor32 (a : Int) (h : F32 a) : bits .xor .u32 a 2147483648 = (a + 2147483648) % 4294967296 := by
  obtain ⟨h1, h2⟩ := h
  rw [u32_xor a 2147483648 h1 (by omega) (by omega) (by omega)]
  by_cases c : a < 2147483648
  · have := xor_low 31 a.toNat (by omega)
    simp only [Int.reduceToNat]
    rw [show (2147483648 : Nat) = 2 ^ 31 by decide, this]
    omega
  · have := xor_high 31 (a.toNat - 2147483648) (by omega)
    rw [show a.toNat - 2147483648 + 2 ^ 31 = a.toNat by omega] at this
    simp only [Int.reduceToNat]
    rw [show (2147483648 : Nat) = 2 ^ 31 by decide, this]
    omega

theorem newB_mk {a b : Int} (h : 1 ≤ (a - b) % 65536 ∧ (a - b) % 65536 ≤ 32767) : newB a b = true := by unfold newB; exact decide_eq_true h
theorem newB_not {a b : Int} (h : ¬ (1 ≤ (a - b) % 65536 ∧ (a - b) % 65536 ≤ 32767)) : newB a b = false := by unfold newB; exact decide_eq_false h
/-- Of two sequence numbers: the same; half the way round apart; the first newer; the second newer. -/
theorem order_cases (a b : Int) (ha : F16 a) (hb : F16 b) :
    (a = b ∧ newB a b = false ∧ newB b a = false) ∨ (a ≠ b ∧ a = bits .xor .u16 b 32768 ∧ newB a b = false ∧ newB b a = false) ∨
    (a ≠ b ∧ a ≠ bits .xor .u16 b 32768 ∧ newB a b = true ∧ newB b a = false) ∨ (a ≠ b ∧ a ≠ bits .xor .u16 b 32768 ∧ newB a b = false ∧ newB b a = true) := by
  rw [xor16 b hb]
  obtain ⟨a1, a2⟩ := ha
  obtain ⟨b1, b2⟩ := hb
  by_cases c1 : a = b
  · exact Or.inl ⟨c1, newB_not (by omega), newB_not (by omega)⟩
  · by_cases c2 : a = (b + 32768) % 65536
    · exact Or.inr (Or.inl ⟨c1, c2, newB_not (by omega), newB_not (by omega)⟩)
    · by_cases c3 : (a - b) % 65536 ≤ 32767
      · exact Or.inr (Or.inr (Or.inl ⟨c1, c2, newB_mk (by omega), newB_not (by omega)⟩))
      · exact Or.inr (Or.inr (Or.inr ⟨c1, c2, newB_not (by omega), newB_mk (by omega)⟩))
theorem next_newer (a : Int) : newB (nextV a) a = true ∧ newB a (nextV a) = false := by
  unfold nextV
  exact ⟨newB_mk (by omega), newB_not (by omega)⟩
theorem turn_cases (a b : Int) (ha : F32 a) (hb : F32 b) :
    (a = bits .xor .u32 b 2147483648 ∧ diffV a b = -2147483648 ∧ diffV b a = -2147483648) ∨ (a ≠ bits .xor .u32 b 2147483648 ∧ diffV b a = -diffV a b ∧ -2147483648 < diffV a b ∧ diffV a b ≤ 2147483647) := by
  rw [xor32 b hb]
  obtain ⟨a1, a2⟩ := ha
  obtain ⟨b1, b2⟩ := hb
  unfold diffV
  omega
theorem diff_moved (a b c : Int) : diffV ((a + c) % 4294967296) ((b + c) % 4294967296) = diffV a b := by unfold diffV; omega
end Go.Proofs.Ytmckbgnafpinmaa
