/- A row whose sum is nothing is one that is opened. -/
import Derived.Test.YtbdlpkkgfhknkaaCrcN
namespace Go.Proofs.Ytbdlpkkgfhknkaa
open Go.RowKit

theorem two_toNat {X Y : Int} (hX : F8 X) (hY : F8 Y) : ((bz X <<< 8 ^^^ bz Y).toNat : Int) = X * 256 + Y := by
  have h1 := bz_small hX.1 hX.2
  have h2 := bz_toNat hY
  obtain ⟨x1, x2⟩ := hX
  obtain ⟨y1, y2⟩ := hY
  have e5 : (bz X <<< 8 : BitVec 16).toNat = X.toNat * 2 ^ 8 := by omega
  have e6 : (bz Y).toNat = Y.toNat := by omega
  have hd : (bz X <<< 8 ^^^ bz Y).toNat = X.toNat * 2 ^ 8 + Y.toNat := by
    rw [BitVec.toNat_xor, e5, e6]
    have := Nat.two_pow_add_eq_or_of_lt (i := 8) (b := Y.toNat) (by omega) X.toNat
    apply Nat.eq_of_testBit_eq
    intro i
    rw [Nat.testBit_xor, Nat.mul_comm, this, Nat.testBit_or]
    rcases Nat.lt_or_ge i 8 with hi | hi
    · rw [Nat.testBit_two_pow_mul]
      simp [show ¬ 8 ≤ i by omega]
    · rw [Nat.testBit_lt_two_pow (x := Y.toNat) (i := i) (Nat.lt_of_lt_of_le (by omega : Y.toNat < 2 ^ 8) (Nat.pow_le_pow_right (by omega) hi))]
      simp
  omega
theorem zero_opens {zs : List Int} (hw : ∀ n ∈ zs, (Lit.int .u8 n).wf = true) (h3 : 2 ≤ zs.length) (h : sumOf zs = 0#16) : opens zs = true := by
  obtain ⟨m, hm⟩ : ∃ m, zs.length = m + 2 := ⟨zs.length - 2, by omega⟩
  have p := range_u8 hw m
  have q := range_u8 hw (m + 1)
  have e : zs = zs.take (m + 1 + 1) := by rw [List.take_of_length_le (by omega)]
  unfold sumOf at h
  rw [e, goes_take _ _ _ (by omega), goes_take _ _ _ (by omega)] at h
  have h1 : beh (beh (sumOf (zs.take m)) (zs[m]?.getD 0)) (zs[m + 1]?.getD 0) = 0#16 := h
  unfold opens lastTwo
  rw [hm, show m + 2 - 2 = m by omega, show m + 2 - 1 = m + 1 by omega]
  generalize zs[m]?.getD 0 = X at *
  generalize zs[m + 1]?.getD 0 = Y at *
  have h2 : beh (sumOf (zs.take m)) X = stps 8 (bz Y) := by
    rw [← bz_steps q]
    exact xor_eq (stps_one h1)
  have h4 : sumOf (zs.take m) ^^^ bz X <<< 8 ^^^ bz Y = 0#16 := by
    refine stps_one (k := 8) ?_
    rw [stps_xor, ← h2]
    unfold beh
    exact BitVec.xor_self
  have h5 : sumOf (zs.take m) = bz X <<< 8 ^^^ bz Y := by
    rw [BitVec.xor_assoc] at h4
    exact xor_eq h4
  rw [h5, two_toNat p q]
  simp
theorem opens_iff {zs : List Int} (hw : ∀ n ∈ zs, (Lit.int .u8 n).wf = true) (h3 : 2 ≤ zs.length) : opens zs = decide (sumOf zs = 0#16) := by
  rw [Bool.eq_iff_iff, decide_eq_true_iff]
  exact ⟨opens_zero hw, zero_opens hw h3⟩
theorem opens_int {zs : List Int} (hw : ∀ n ∈ zs, (Lit.int .u8 n).wf = true) (h3 : 2 ≤ zs.length) : (((sumOf zs).toNat : Int) != 0) = !opens zs := by
  rw [opens_iff hw h3]
  have : ((sumOf zs).toNat : Int) = 0 ↔ sumOf zs = 0#16 := ⟨fun h => BitVec.eq_of_toNat_eq (by simpa using h), fun h => by rw [h]; rfl⟩
  by_cases h0 : sumOf zs = 0#16
  · simp [h0]
  · have h1 : ¬ (sumOf zs).toNat = 0 := fun h => h0 (this.1 (by omega))
    simp [h0, h1]
end Go.Proofs.Ytbdlpkkgfhknkaa
