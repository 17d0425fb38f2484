/- Plain reckoning for a quotient of 128 bits by 64 bits: the two guesses, each lowered till it fits, are the two halves of the quotient. -/
import Derived.Test.YtkibpialacnlhaaFixM
namespace Go.Proofs.Ytkibpialacnlhaa
open Go.RowKit Go.IntWalk

/-- What holds of a guess q and its rest r. -/
def KInv (u a T q r : Int) : Prop := q * a + r = u ∧ 0 ≤ T ∧ T ≤ 4294967295 ∧ T ≤ q ∧ q ≤ 4294967297 ∧ 0 ≤ r ∧ r ≤ 4294967295
/-- A divisor in two halves, the upper one with its highest bit. -/
def KDiv (Y a b : Int) : Prop := Y = a * 4294967296 + b ∧ 2147483648 ≤ a ∧ a ≤ 4294967295 ∧ 0 ≤ b ∧ b ≤ 4294967295
theorem k_quo {Y a b u v : Int} (hd : KDiv Y a b) (hu : 0 ≤ u) (huY : u < Y) (hv : 0 ≤ v) (hv' : v ≤ 4294967295) :
    0 ≤ (u * 4294967296 + v) / Y ∧ (u * 4294967296 + v) / Y ≤ 4294967295 ∧ (u * 4294967296 + v) / Y * Y ≤ u * 4294967296 + v ∧ u * 4294967296 + v < ((u * 4294967296 + v) / Y + 1) * Y := by
  obtain ⟨h1, h2, h3, h4, h5⟩ := hd
  have hY : 0 < Y := by omega
  refine ⟨Int.ediv_nonneg (by omega) (by omega), ?_, Int.ediv_mul_le _ (by omega), Int.lt_ediv_add_one_mul_self _ hY⟩
  have : (u * 4294967296 + v) / Y < 4294967296 := Int.ediv_lt_of_lt_mul hY (by omega)
  omega
theorem k_start {Y a b u v : Int} (hd : KDiv Y a b) (hu : 0 ≤ u) (huY : u < Y) (hv : 0 ≤ v) (hv' : v ≤ 4294967295) :
    KInv u a ((u * 4294967296 + v) / Y) (u / a) (u - u / a * a) := by
  obtain ⟨t1, t2, t3, t4⟩ := k_quo hd hu huY hv hv'
  obtain ⟨h1, h2, h3, h4, h5⟩ := hd
  have m1 := Int.emod_nonneg u (show a ≠ 0 by omega)
  have m2 := Int.emod_lt_of_pos u (show 0 < a by omega)
  have m3 := Int.emod_add_mul_ediv u a
  rw [Int.mul_comm a] at m3
  have q0 : 0 ≤ u / a := Int.ediv_nonneg hu (by omega)
  generalize (u * 4294967296 + v) / Y = T at *
  refine ⟨by omega, t1, t2, ?_, ?_, by omega, by omega⟩
  · rw [Int.le_ediv_iff_mul_le (by omega)]
    have e : T * Y = T * a * 4294967296 + T * b := by subst h1; grind
    have n : 0 ≤ T * b := Int.mul_nonneg t1 h4
    omega
  · have : u / a < 4294967298 := Int.ediv_lt_of_lt_mul (by omega) (by omega)
    omega
theorem k_over {Y a b u v q r : Int} (hd : KDiv Y a b) (hu : 0 ≤ u) (huY : u < Y) (hv : 0 ≤ v) (hv' : v ≤ 4294967295) (hk : KInv u a ((u * 4294967296 + v) / Y) q r)
    (h : 4294967296 ≤ q ∨ 4294967296 * r + v < q * b) : (u * 4294967296 + v) / Y ≤ q - 1 := by
  obtain ⟨t1, t2, t3, t4⟩ := k_quo hd hu huY hv hv'
  obtain ⟨h1, h2, h3, h4, h5⟩ := hd
  obtain ⟨k1, _, _, k2, k3, k4, k5⟩ := hk
  generalize (u * 4294967296 + v) / Y = T at *
  rcases h with h | h
  · omega
  · have e : q * Y = (q * a) * 4294967296 + q * b := by subst h1; grind
    have l : T * Y < q * Y := by omega
    have := Int.lt_of_mul_lt_mul_right l (by omega)
    omega
theorem k_step {u a T q r : Int} (hk : KInv u a T q r) (h : T ≤ q - 1) (ha : 0 ≤ a) (hr : r + a ≤ 4294967295) : KInv u a T (q - 1) (r + a) := by
  obtain ⟨k1, k6, k7, k2, k3, k4, k5⟩ := hk
  exact ⟨by rw [← k1]; grind, k6, k7, h, by omega, by omega, hr⟩
theorem k_break {Y a b u v q r : Int} (hd : KDiv Y a b) (hu : 0 ≤ u) (huY : u < Y) (hv : 0 ≤ v) (hv' : v ≤ 4294967295) (hk : KInv u a ((u * 4294967296 + v) / Y) q r)
    (h : (u * 4294967296 + v) / Y ≤ q - 1) (hr : 4294967296 ≤ r + a) : q - 1 = (u * 4294967296 + v) / Y := by
  obtain ⟨t1, t2, t3, t4⟩ := k_quo hd hu huY hv hv'
  obtain ⟨h1, h2, h3, h4, h5⟩ := hd
  obtain ⟨k1, _, _, k2, k3, k4, k5⟩ := hk
  generalize (u * 4294967296 + v) / Y = T at *
  have e : (q - 1) * Y = (q * a) * 4294967296 - a * 4294967296 + (q - 1) * b := by subst h1; grind
  have n : (q - 1) * b ≤ 4294967296 * 4294967295 := Int.mul_le_mul (by omega) h5 h4 (by omega)
  have l : (q - 1) * Y < (T + 1) * Y := by omega
  have := Int.lt_of_mul_lt_mul_right l (by omega)
  omega
theorem k_stop {Y a b u v q r : Int} (hd : KDiv Y a b) (hu : 0 ≤ u) (huY : u < Y) (hv : 0 ≤ v) (hv' : v ≤ 4294967295) (hk : KInv u a ((u * 4294967296 + v) / Y) q r)
    (h : q * b ≤ 4294967296 * r + v) : q = (u * 4294967296 + v) / Y := by
  obtain ⟨t1, t2, t3, t4⟩ := k_quo hd hu huY hv hv'
  obtain ⟨h1, h2, h3, h4, h5⟩ := hd
  obtain ⟨k1, _, _, k2, k3, k4, k5⟩ := hk
  generalize (u * 4294967296 + v) / Y = T at *
  have e : q * Y = (q * a) * 4294967296 + q * b := by subst h1; grind
  have l : q * Y < (T + 1) * Y := by omega
  have := Int.lt_of_mul_lt_mul_right l (by omega)
  omega
/-- What is left, reckoned with numbers that go round. -/
theorem k_rest {Y u v : Int} (hY : 0 < Y) (hY' : Y ≤ 18446744073709551615) :
    IntKind.u64.wrap (IntKind.u64.wrap (IntKind.u64.wrap (u * 4294967296) + v) - IntKind.u64.wrap ((u * 4294967296 + v) / Y * Y)) = (u * 4294967296 + v) % Y := by
  have m1 := Int.emod_nonneg (u * 4294967296 + v) (show Y ≠ 0 by omega)
  have m2 := Int.emod_lt_of_pos (u * 4294967296 + v) hY
  have m3 := Int.emod_add_mul_ediv (u * 4294967296 + v) Y
  rw [Int.mul_comm Y] at m3
  generalize (u * 4294967296 + v) / Y * Y = P at *
  simp only [wrap_u64]
  omega
theorem or_parts (h l : Int) (s : Nat) (hs : s ≤ 63) (h0 : 0 ≤ h) (hh : h * 2 ^ s ≤ 18446744073709551615) (l0 : 0 ≤ l) (l1 : l ≤ 18446744073709551615) :
    bits .or .u64 (h * 2 ^ s) (l / 2 ^ (64 - s)) = h * 2 ^ s + l / 2 ^ (64 - s) := by
  obtain ⟨h, rfl⟩ := Int.eq_ofNat_of_zero_le h0
  obtain ⟨l, rfl⟩ := Int.eq_ofNat_of_zero_le l0
  have hp : 2 ^ s * 2 ^ (64 - s) = 18446744073709551616 := by rw [← Nat.pow_add, show s + (64 - s) = 64 by omega]
  have hq : l / 2 ^ (64 - s) < 2 ^ s := by rw [Nat.div_lt_iff_lt_mul (Nat.two_pow_pos _), hp]; omega
  have e1 : ((h : Int) * 2 ^ s) = ((h * 2 ^ s : Nat) : Int) := by rw [Int.natCast_mul, Int.natCast_pow]; rfl
  have e2 : ((l : Int) / 2 ^ (64 - s)) = ((l / 2 ^ (64 - s) : Nat) : Int) := by rw [Int.natCast_ediv, Int.natCast_pow]; rfl
  rw [e1] at hh
  rw [e1, e2, bits_or_u64_nat _ _ (by omega) (by have := Nat.div_le_self l (2 ^ (64 - s)); omega)]
  rw [Nat.mul_comm h, ← Nat.two_pow_add_eq_or_of_lt hq, Int.natCast_add]
theorem shl_parts (l : Int) (s : Nat) (hs : s ≤ 63) : l * 2 ^ s = l / 2 ^ (64 - s) * 18446744073709551616 + IntKind.u64.wrap (l * 2 ^ s) := by
  have hp : (2 : Int) ^ s * 2 ^ (64 - s) = 18446744073709551616 := by rw [← Int.pow_add, show s + (64 - s) = 64 by omega]; rfl
  have e : l * 2 ^ s / 18446744073709551616 = l / 2 ^ (64 - s) := by
    rw [← hp, Int.mul_comm l]
    exact Int.mul_ediv_mul_of_pos _ _ (Int.pow_pos (by decide))
  rw [wrap_u64, ← e]
  omega
/-- The two halves of the quotient, and the rest, brought back. -/
theorem k_back {h l y m Y u v1 v0 Q R T R2 L F : Int} (hm : 0 < m) (hY : Y = y * m) (hy : 0 < y) (hl : l * m = F * 18446744073709551616 + L) (hL : L = v1 * 4294967296 + v0) (hu : u = h * m + F)
    (hQ : Q = (u * 4294967296 + v1) / Y) (hR : R = (u * 4294967296 + v1) % Y) (hT : T = (R * 4294967296 + v0) / Y) (hR2 : R2 = (R * 4294967296 + v0) % Y) :
    Q * 4294967296 + T = (h * 18446744073709551616 + l) / y ∧ R2 / m = (h * 18446744073709551616 + l) % y := by
  have hYp : 0 < Y := by rw [hY]; exact Int.mul_pos hy hm
  have a1 := Int.emod_add_mul_ediv (u * 4294967296 + v1) Y
  rw [← hQ, ← hR] at a1
  have a2 := Int.emod_add_mul_ediv (R * 4294967296 + v0) Y
  rw [← hT, ← hR2] at a2
  have b1 : 0 ≤ R2 := by rw [hR2]; exact Int.emod_nonneg _ (by omega)
  have b2 : R2 < Y := by rw [hR2]; exact Int.emod_lt_of_pos _ hYp
  clear hQ hR hT hR2
  have c1 : (h * 18446744073709551616 + l - y * (Q * 4294967296 + T)) * m = R2 := by subst hY hu hL; grind
  have c2 : R2 / m = h * 18446744073709551616 + l - y * (Q * 4294967296 + T) := by rw [← c1]; exact Int.mul_ediv_cancel _ (by omega)
  have c3 : 0 ≤ h * 18446744073709551616 + l - y * (Q * 4294967296 + T) := by rw [← c2]; exact Int.ediv_nonneg b1 (by omega)
  have c4 : h * 18446744073709551616 + l - y * (Q * 4294967296 + T) < y := by
    rw [← c2]; exact Int.ediv_lt_of_lt_mul hm (by rw [← hY]; exact b2)
  have c5 := (Int.ediv_emod_unique (a := h * 18446744073709551616 + l) (b := y) (r := h * 18446744073709551616 + l - y * (Q * 4294967296 + T)) (q := Q * 4294967296 + T) hy).2 ⟨by omega, c3, c4⟩
  exact ⟨c5.1.symm, by rw [c2, c5.2]⟩
end Go.Proofs.Ytkibpialacnlhaa
