/- Package fix, for the seats of later layers: Size; the library's Mul64 and Len64. -/
import Derived.Test.YtkibpialacnlhaaFxA
import Derived.Test.YtkibpialacnlhaaFixM
import Derived.Laws.MathBits
import Derived.Lib.Walk
namespace Go.Proofs.Ytkibpialacnlhaa
open Go.RowKit

theorem u64_negneg (n : Int) (h : n < 0) (h1 : -9223372036854775808 ≤ n) : IntKind.u64.wrap (-IntKind.u64.wrap n) = -n := by
  simp [IntKind.wrap, IntKind.bits, IntKind.signed]; omega
def sizeV (n : Int) : Int := if n < 0 then -n else n
theorem size_any (n : Int) (w : World) (h : Fits n) :
    Calls Try.prog 53 #[.int .i64 n] w fun e w' => e = .returned (.int .u64 (sizeV n)) ∧ w = w' := by
  obtain ⟨h1, h2⟩ := h
  by_cases c : n < 0
  · go_enter Try.func53, Try.ntmps53
    go_wp2
    go_ret
    exact ⟨ret_int (by rw [u64_negneg n (by omega) (by omega)]; unfold sizeV; rw [if_pos c]), rfl⟩
  · go_enter Try.func53, Try.ntmps53
    go_wp2
    go_ret
    exact ⟨ret_int (by unfold sizeV; rw [if_neg (by omega)]), rfl⟩
theorem mul64_any (x y : Int) (w : World) (hx : 0 ≤ x) (hx' : x ≤ 18446744073709551615) (hy : 0 ≤ y) (hy' : y ≤ 18446744073709551615) :
    Calls Try.prog 52 #[.int .u64 x, .int .u64 y] w fun e w' => e = .returned (.tuple #[.int .u64 (x * y / 18446744073709551616), .int .u64 (x * y % 18446744073709551616)]) ∧ w = w' := by
  go_enter Try.func52, Try.ntmps52
  go_wp2
  go_ret2
  exact ⟨ret_ii (mul_hi x y hx hx' hy hy') (wrap_u64 (x * y)), rfl⟩

theorem len_size : ((Lib.len8tab.size : Nat) : Int) = 256 := by rw [Lib.len8tab_size]; rfl
theorem len_get (z : Int) (hh : z.toNat < Lib.len8tab.size) : ((Lib.len8tab[z.toNat]'hh).toNat : Int) = Lib.len8 z := by
  unfold Lib.len8
  rw [getElem?_pos Lib.len8tab z.toNat hh]
  rfl
theorem wrap_small (a b : Nat) (ha : a ≤ 56) (hb : b ≤ 8) : wrap64 ((a : Int) + wrap64 (b : Int)) = ((a + b : Nat) : Int) := by
  unfold wrap64
  omega
theorem len_sum (x z : Int) (k m : Nat) (hx : 1 ≤ x) (h1 : x ≤ 18446744073709551615) (hm : 2 ^ k = m) (hz : z.toNat = x.toNat / m) (h : m ≤ x.toNat) : k + Lib.bitLen z.toNat = Lib.bitLen x.toNat := by
  subst hm
  rw [hz]
  exact (Lib.bitLen_shift k x.toNat h (by omega)).symm
theorem len_at (x z : Int) (k m : Nat) (hx : 1 ≤ x) (h1 : x ≤ 18446744073709551615) (hm : 2 ^ k = m) (hk : k ≤ 56) (hz : z.toNat = x.toNat / m) (h : m ≤ x.toNat) (z0 : 0 ≤ z) (z1 : z ≤ 255) (hh : z.toNat < Lib.len8tab.size) :
    wrap64 ((k : Int) + wrap64 ((Lib.len8tab[z.toNat]'hh).toNat : Int)) = Lib.bitLen x.toNat := by
  rw [len_get z hh, Lib.len8_of z z0 z1, wrap_small k _ hk (Lib.bitLen_le8' z z0 z1), len_sum x z k m hx h1 hm hz h]
set_option maxRecDepth 100000 in
theorem len64_any (x : Int) (w : World) (hx : 1 ≤ x) (hx' : x ≤ 18446744073709551615) :
    Calls Try.prog 57 #[.int .u64 x] w fun e w' => e = .returned (.int .i64 (Lib.bitLen x.toNat)) ∧ w = w' := by
  have hs := len_size
  go_enter Try.func57, Try.ntmps57
  go_wp2
  all_goals (go_ret; refine ⟨ret_int ?_, rfl⟩)
  · exact len_at x _ 56 72057594037927936 hx hx' (by decide) (by omega) (by omega) (by omega) (by omega) (by omega) _
  · exact len_at x _ 48 281474976710656 hx hx' (by decide) (by omega) (by omega) (by omega) (by omega) (by omega) _
  · exact len_at x _ 40 1099511627776 hx hx' (by decide) (by omega) (by omega) (by omega) (by omega) (by omega) _
  · exact len_at x _ 32 4294967296 hx hx' (by decide) (by omega) (by omega) (by omega) (by omega) (by omega) _
  · exact len_at x _ 24 16777216 hx hx' (by decide) (by omega) (by omega) (by omega) (by omega) (by omega) _
  · exact len_at x _ 16 65536 hx hx' (by decide) (by omega) (by omega) (by omega) (by omega) (by omega) _
  · exact len_at x _ 8 256 hx hx' (by decide) (by omega) (by omega) (by omega) (by omega) (by omega) _
  · have := len_at x x 0 1 hx hx' (by decide) (by omega) (by omega) (by omega) (by omega) (by omega) (by rw [Lib.len8tab_size]; omega)
    simpa using this
theorem lead_bits (x : Int) (hx : 1 ≤ x) (hx' : x ≤ 18446744073709551615) : ∃ s : Nat, s ≤ 63 ∧ Lib.bitLen x.toNat + s = 64 ∧ 9223372036854775808 ≤ x * 2 ^ s ∧ x * 2 ^ s ≤ 18446744073709551615 := by
  obtain ⟨h1, h2, h3⟩ := Lib.bitLenAux_bounds 64 x.toNat (by omega) (by omega)
  have h4 := Lib.bitLen_le x.toNat 64 (by omega) (by omega)
  change 1 ≤ Lib.bitLen x.toNat at h1
  change 2 ^ (Lib.bitLen x.toNat - 1) ≤ x.toNat at h2
  change x.toNat < 2 ^ Lib.bitLen x.toNat at h3
  generalize Lib.bitLen x.toNat = L at *
  refine ⟨64 - L, by omega, by omega, ?_⟩
  obtain ⟨n, rfl⟩ := Int.eq_ofNat_of_zero_le (show 0 ≤ x by omega)
  simp only [Int.toNat_natCast] at *
  have e1 : 2 ^ (L - 1) * 2 ^ (64 - L) = 9223372036854775808 := by rw [← Nat.pow_add, show L - 1 + (64 - L) = 63 by omega]
  have e2 : 2 ^ L * 2 ^ (64 - L) = 18446744073709551616 := by rw [← Nat.pow_add, show L + (64 - L) = 64 by omega]
  have g1 := Nat.mul_le_mul_right (2 ^ (64 - L)) h2
  have g2 := Nat.mul_lt_mul_of_pos_right h3 (Nat.two_pow_pos (64 - L))
  have e3 : ((n : Int) * 2 ^ (64 - L)) = ((n * 2 ^ (64 - L) : Nat) : Int) := by rw [Int.natCast_mul, Int.natCast_pow]; rfl
  rw [e3]
  omega
theorem lead_any (x : Int) (w : World) (hx : 1 ≤ x) (hx' : x ≤ 18446744073709551615) (s : Nat) (hs : s ≤ 63) (he : Lib.bitLen x.toNat + s = 64) :
    Calls Try.prog 56 #[.int .u64 x] w fun e w' => e = .returned (.int .i64 s) ∧ w = w' := by
  have H : Hid ((64 : Int) - Lib.bitLen x.toNat = s) := by
    have : (64 : Int) - Lib.bitLen x.toNat = s := by omega
    exact Lib.hid this
  have g0 : (Lib.bitLen x.toNat : Int) ≤ 64 := by omega
  clear he
  go_enter Try.func56, Try.ntmps56
  go_wp2_with (go_at_call 57; refine (len64_any _ _ hx hx').mono ?_; rintro e w' ⟨rfl, rfl⟩)
  go_ret
  exact ⟨ret_int H.out, rfl⟩
end Go.Proofs.Ytkibpialacnlhaa
