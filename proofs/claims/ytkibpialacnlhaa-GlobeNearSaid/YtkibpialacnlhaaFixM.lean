/- Plain reckoning: products and quotients of numbers of 64 bits in parts of 32 bits. -/
import Derived.IntWalk
import Derived.WalkKit
import Derived.Laws.Bits64b
import Derived.Lib.BitFns
import Derived.Lib.ItoaNum
namespace Go.Proofs.Ytkibpialacnlhaa
open Go.RowKit Go.IntWalk

theorem and32 (a : Int) (h : 0 ≤ a) (h' : a ≤ 18446744073709551615) : bits .and .u64 a 4294967295 = a % 4294967296 := by
  obtain ⟨n, rfl⟩ := Int.eq_ofNat_of_zero_le h
  have e := bits_and_u64_nat n 4294967295 (by omega) (by omega)
  rw [show n &&& 4294967295 = n % 4294967296 from Nat.and_two_pow_sub_one_eq_mod n 32] at e
  exact e
theorem mul32 (a c : Int) (h : 0 ≤ a) (h1 : a ≤ 4294967295) (g : 0 ≤ c) (g1 : c ≤ 4294967295) : 0 ≤ a * c ∧ a * c ≤ 18446744065119617025 :=
  ⟨Int.mul_nonneg h g, Int.le_trans (Int.mul_le_mul h1 g1 g (by omega)) (by decide)⟩
theorem prod_parts (x y : Int) : x * y = x / 4294967296 * (y / 4294967296) * 18446744073709551616 + (x / 4294967296 * (y % 4294967296) + x % 4294967296 * (y / 4294967296)) * 4294967296 + x % 4294967296 * (y % 4294967296) := by
  have e1 := Int.emod_add_mul_ediv x 4294967296
  have e2 := Int.emod_add_mul_ediv y 4294967296
  generalize x / 4294967296 = b at *
  generalize x % 4294967296 = a at *
  generalize y / 4294967296 = d at *
  generalize y % 4294967296 = c at *
  subst e1 e2
  grind
theorem mul_hi (x y : Int) (hx : 0 ≤ x) (hx' : x ≤ 18446744073709551615) (hy : 0 ≤ y) (hy' : y ≤ 18446744073709551615) :
    IntKind.u64.wrap (IntKind.u64.wrap (IntKind.u64.wrap (x / 4294967296 * (y / 4294967296)) +
      IntKind.u64.wrap (IntKind.u64.wrap (x / 4294967296 * bits BinOp.and IntKind.u64 y 4294967295) + IntKind.u64.wrap (bits BinOp.and IntKind.u64 x 4294967295 * bits BinOp.and IntKind.u64 y 4294967295) / 4294967296) / 4294967296) +
      IntKind.u64.wrap (bits BinOp.and IntKind.u64 (IntKind.u64.wrap (IntKind.u64.wrap (x / 4294967296 * bits BinOp.and IntKind.u64 y 4294967295) + IntKind.u64.wrap (bits BinOp.and IntKind.u64 x 4294967295 * bits BinOp.and IntKind.u64 y 4294967295) / 4294967296)) 4294967295 +
        IntKind.u64.wrap (bits BinOp.and IntKind.u64 x 4294967295 * (y / 4294967296))) / 4294967296) = x * y / 18446744073709551616 := by
  rw [and32 x hx hx', and32 y hy hy']
  have pp := prod_parts x y
  have a1 : 0 ≤ x % 4294967296 ∧ x % 4294967296 ≤ 4294967295 := by omega
  have b1 : 0 ≤ x / 4294967296 ∧ x / 4294967296 ≤ 4294967295 := by omega
  have c1 : 0 ≤ y % 4294967296 ∧ y % 4294967296 ≤ 4294967295 := by omega
  have d1 : 0 ≤ y / 4294967296 ∧ y / 4294967296 ≤ 4294967295 := by omega
  generalize x / 4294967296 = b at *
  generalize x % 4294967296 = a at *
  generalize y / 4294967296 = d at *
  generalize y % 4294967296 = c at *
  have ac := mul32 a c a1.1 a1.2 c1.1 c1.2
  have ad := mul32 a d a1.1 a1.2 d1.1 d1.2
  have bc := mul32 b c b1.1 b1.2 c1.1 c1.2
  have bd := mul32 b d b1.1 b1.2 d1.1 d1.2
  rw [pp]
  generalize a * c = ac' at *
  generalize a * d = ad' at *
  generalize b * c = bc' at *
  generalize b * d = bd' at *
  rw [u64_in ac' (by omega), u64_in ad' (by omega), u64_in bc' (by omega), u64_in bd' (by omega), u64_in (bc' + ac' / 4294967296) (by omega), and32 _ (by omega) (by omega)]
  rw [u64_in (bd' + (bc' + ac' / 4294967296) / 4294967296) (by omega), u64_in ((bc' + ac' / 4294967296) % 4294967296 + ad') (by omega)]
  rw [u64_in _ (by omega)]
  omega
theorem wrap_u64 (x : Int) : IntKind.u64.wrap x = x % 18446744073709551616 := by rw [IntKind.wrap_u64]
end Go.Proofs.Ytkibpialacnlhaa
