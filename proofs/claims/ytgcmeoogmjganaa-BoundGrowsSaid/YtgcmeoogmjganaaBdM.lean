/- Package bound, by numbers alone: how wrong a time may be, how long a network takes. Nothing here speaks of one program. -/
import Derived.Test.YtgcmeoogmjganaaLawKit
namespace Go.Proofs.Ytgcmeoogmjganaa
set_option linter.unusedVariables false

/-- Is a number from low to high? -/
def bdIn (x l h : Int) : Bool := decide (l ≤ x) && decide (x ≤ h)
theorem bdIn_iff {x l h : Int} : bdIn x l h = true ↔ l ≤ x ∧ x ≤ h := by
  unfold bdIn
  rw [Bool.and_eq_true, decide_eq_true_iff, decide_eq_true_iff]
theorem bdIn_no {x l h : Int} (g : ¬ (l ≤ x ∧ x ≤ h)) : bdIn x l h = false := Bool.eq_false_iff.2 fun e => g (bdIn_iff.1 e)
/-- Can terms be? -/
structure BdCan (d j t r : Int) : Prop where
  d0 : 0 ≤ d
  d1 : d ≤ 10
  j0 : 0 ≤ j
  j1 : j ≤ 20
  t0 : 1 ≤ t
  t1 : t ≤ 1000
  r0 : 1 ≤ r
  r1 : r ≤ 64
def bdGood (d j t r : Int) : Bool := bdIn d 0 10 && bdIn j 0 20 && bdIn t 1 1000 && bdIn r 1 64
theorem bdGood_iff {d j t r : Int} : bdGood d j t r = true ↔ BdCan d j t r := by
  unfold bdGood
  rw [Bool.and_eq_true, Bool.and_eq_true, Bool.and_eq_true, bdIn_iff, bdIn_iff, bdIn_iff, bdIn_iff]
  constructor
  · rintro ⟨⟨⟨⟨h1, h2⟩, h3, h4⟩, h5, h6⟩, h7, h8⟩
    exact ⟨h1, h2, h3, h4, h5, h6, h7, h8⟩
  · rintro ⟨h1, h2, h3, h4, h5, h6, h7, h8⟩
    exact ⟨⟨⟨⟨h1, h2⟩, h3, h4⟩, h5, h6⟩, h7, h8⟩
theorem bdGood_no {d j t r : Int} (g : ¬ BdCan d j t r) : bdGood d j t r = false := Bool.eq_false_iff.2 fun e => g (bdGood_iff.1 e)
def bdTicks (d j t r n : Int) : Int := if bdGood d j t r = true ∧ bdIn n 0 1073741824 = true then n * r * (1000 + d) else 0
def bdLag (d j t r n : Int) : Int := if bdGood d j t r = true then (2 * d * bdTicks d j t r n + (1000 - d) - 1) / (1000 - d) else 0
def bdHop (d j t r : Int) : Int := if bdGood d j t r = true then 2 * j + bdLag d j t r (t + 1) + 2 else 0
def bdRest (d j t r : Int) : Int := if bdGood d j t r = true then 2 * j + 2 * bdLag d j t r (8 * (t + 1)) + 6 else 0
def bdError (d j t r h : Int) : Int := if bdIn h 0 63 = true then h * (bdHop d j t r + bdRest d j t r) else 0

/-- Products of numbers that aren't below 0. -/
theorem bd_mul {a b A B : Int} (a0 : 0 ≤ a) (a1 : a ≤ A) (b0 : 0 ≤ b) (b1 : b ≤ B) : 0 ≤ a * b ∧ a * b ≤ A * B :=
  ⟨Int.mul_nonneg a0 b0, Int.mul_le_mul a1 b1 b0 (Int.le_trans a0 a1)⟩
theorem bd_prod {n r d : Int} (n0 : 0 ≤ n) (n1 : n ≤ 1073741824) (r0 : 1 ≤ r) (r1 : r ≤ 64) (d0 : 0 ≤ d) (d1 : d ≤ 10) :
    (0 ≤ n * r ∧ n * r ≤ 68719476736) ∧ 0 ≤ n * r * (1000 + d) ∧ n * r * (1000 + d) ≤ 69406671503360 := by
  have h1 := bd_mul n0 n1 (by omega : 0 ≤ r) r1
  have h2 := bd_mul h1.1 (by omega : n * r ≤ 68719476736) (by omega : (0 : Int) ≤ 1000 + d) (by omega : 1000 + d ≤ 1010)
  omega
theorem bdTicks_bd (d j t r n : Int) : 0 ≤ bdTicks d j t r n ∧ bdTicks d j t r n ≤ 69406671503360 := by
  unfold bdTicks
  split
  · rename_i h
    have c := bdGood_iff.1 h.1
    have i := bdIn_iff.1 h.2
    exact (bd_prod i.1 i.2 c.r0 c.r1 c.d0 c.d1).2
  · omega
/-- What is divided, and what comes out, for terms that can be. -/
theorem bd_num {d T : Int} (d0 : 0 ≤ d) (d1 : d ≤ 10) (t0 : 0 ≤ T) (t1 : T ≤ 69406671503360) : 0 ≤ 2 * d * T ∧ 2 * d * T ≤ 1388133430067200 := by
  have := bd_mul (by omega : 0 ≤ 2 * d) (by omega : 2 * d ≤ 20) t0 t1
  omega
theorem bd_div {n s N : Int} (n0 : 0 ≤ n) (n1 : n ≤ N) (s0 : 0 < s) : 0 ≤ n / s ∧ n / s ≤ N :=
  ⟨Int.ediv_nonneg n0 (by omega), Int.le_trans (Int.ediv_le_self s n0) n1⟩
theorem bdLag_bd (d j t r n : Int) : 0 ≤ bdLag d j t r n ∧ bdLag d j t r n ≤ 1388133430068200 := by
  unfold bdLag
  split
  · rename_i h
    have c := bdGood_iff.1 h
    have t := bdTicks_bd d j t r n
    have m := bd_num c.d0 c.d1 t.1 t.2
    have h1 := c.d0
    have h2 := c.d1
    exact bd_div (by omega) (by omega) (by omega)
  · omega
theorem bdHop_bd (d j t r : Int) : 0 ≤ bdHop d j t r ∧ bdHop d j t r ≤ 1388133430068242 := by
  unfold bdHop
  split
  · rename_i h
    have c := bdGood_iff.1 h
    have h1 := c.j0
    have h2 := c.j1
    have l := bdLag_bd d j t r (t + 1)
    omega
  · omega
theorem bdRest_bd (d j t r : Int) : 0 ≤ bdRest d j t r ∧ bdRest d j t r ≤ 2776266860136446 := by
  unfold bdRest
  split
  · rename_i h
    have c := bdGood_iff.1 h
    have h1 := c.j0
    have h2 := c.j1
    have l := bdLag_bd d j t r (8 * (t + 1))
    omega
  · omega
theorem bdError_bd (d j t r h : Int) : 0 ≤ bdError d j t r h ∧ bdError d j t r h ≤ 262357218312889344 := by
  unfold bdError
  split
  · rename_i i
    have i := bdIn_iff.1 i
    have a := bdHop_bd d j t r
    have b := bdRest_bd d j t r
    have := bd_mul i.1 i.2 (by omega : 0 ≤ bdHop d j t r + bdRest d j t r) (by omega : bdHop d j t r + bdRest d j t r ≤ 4164400290204688)
    omega
  · omega
/-- Rounded up: what the document reckons. -/
theorem bd_up {n s : Int} (n0 : 0 ≤ n) (s0 : 0 < s) : (n + s - 1) / s = if n / s * s < n then n / s + 1 else n / s := by
  have e := Int.mul_ediv_add_emod n s
  have m0 := Int.emod_nonneg n (by omega : s ≠ 0)
  have m1 := Int.emod_lt_of_pos n s0
  generalize n / s = q at *
  generalize n % s = m at *
  have e2 : q * s = s * q := Int.mul_comm _ _
  rw [e2]
  split
  · rename_i h
    have : n + s - 1 = (m - 1) + (q + 1) * s := by rw [Int.add_mul, Int.one_mul, e2]; omega
    rw [this, Int.add_mul_ediv_right _ _ (by omega), Int.ediv_eq_zero_of_lt (by omega) (by omega)]
    omega
  · rename_i h
    have : n + s - 1 = (m + s - 1) + q * s := by rw [e2]; omega
    rw [this, Int.add_mul_ediv_right _ _ (by omega), Int.ediv_eq_zero_of_lt (by omega) (by omega)]
    omega

/-- Can a net be? -/
structure NtCan (n w m i k : Int) : Prop where
  n0 : 1 ≤ n
  n1 : n ≤ 64
  w0 : 0 ≤ w
  w1 : w ≤ n - 1
  m0 : 0 ≤ m
  m1 : m ≤ 1000
  i0 : 0 ≤ i
  i1 : i ≤ 1000
  k0 : 1 ≤ k
  k1 : k ≤ 8
def ntGood (n w m i k : Int) : Bool := bdIn n 1 64 && bdIn w 0 (n - 1) && bdIn m 0 1000 && bdIn i 0 1000 && bdIn k 1 8
theorem ntGood_iff {n w m i k : Int} : ntGood n w m i k = true ↔ NtCan n w m i k := by
  unfold ntGood
  rw [Bool.and_eq_true, Bool.and_eq_true, Bool.and_eq_true, Bool.and_eq_true, bdIn_iff, bdIn_iff, bdIn_iff, bdIn_iff, bdIn_iff]
  constructor
  · rintro ⟨⟨⟨⟨⟨h1, h2⟩, h3, h4⟩, h5, h6⟩, h7, h8⟩, h9, h10⟩
    exact ⟨h1, h2, h3, h4, h5, h6, h7, h8, h9, h10⟩
  · rintro ⟨h1, h2, h3, h4, h5, h6, h7, h8, h9, h10⟩
    exact ⟨⟨⟨⟨⟨h1, h2⟩, h3, h4⟩, h5, h6⟩, h7, h8⟩, h9, h10⟩
theorem ntGood_no {n w m i k : Int} (g : ¬ NtCan n w m i k) : ntGood n w m i k = false := Bool.eq_false_iff.2 fun e => g (ntGood_iff.1 e)
def ntBehind (n w m i k : Int) : Int := if ntGood n w m i k = true then w * (m + 2) else 0
def ntPatience (n w m i k : Int) : Int := if ntGood n w m i k = true then ntBehind n w m i k + 4 else 0
def ntSettle (n w m i k t : Int) : Int :=
  if ntGood n w m i k = true ∧ bdIn t (ntPatience n w m i k) 1000 = true then (n + 1) * (t + 2) + w * (3 * (ntBehind n w m i k + 2) + i + k * (ntBehind n w m i k + 2)) + 4 else 0
theorem ntBehind_bd (n w m i k : Int) : 0 ≤ ntBehind n w m i k ∧ ntBehind n w m i k ≤ 63126 := by
  unfold ntBehind
  split
  · rename_i h
    have c := ntGood_iff.1 h
    have h1 := c.n1
    have h2 := c.w1
    have h3 := c.m0
    have h4 := c.m1
    have := bd_mul c.w0 (by omega : w ≤ 63) (by omega : (0 : Int) ≤ m + 2) (by omega : m + 2 ≤ 1002)
    omega
  · omega
theorem nt_prods {n w i k t b : Int} (c0 : 1 ≤ n) (c1 : n ≤ 64) (w0 : 0 ≤ w) (w1 : w ≤ n - 1) (i0 : 0 ≤ i) (i1 : i ≤ 1000) (k0 : 1 ≤ k) (k1 : k ≤ 8) (t0 : 0 ≤ t) (t1 : t ≤ 1000) (b0 : 0 ≤ b) (b1 : b ≤ 63126) :
    (0 ≤ (n + 1) * (t + 2) ∧ (n + 1) * (t + 2) ≤ 65130) ∧ (0 ≤ k * (b + 2) ∧ k * (b + 2) ≤ 505024) ∧ 0 ≤ w * (3 * (b + 2) + i + k * (b + 2)) ∧ w * (3 * (b + 2) + i + k * (b + 2)) ≤ 43810704 := by
  have p1 := bd_mul (by omega : 0 ≤ n + 1) (by omega : n + 1 ≤ 65) (by omega : 0 ≤ t + 2) (by omega : t + 2 ≤ 1002)
  have p2 := bd_mul (by omega : 0 ≤ k) k1 (by omega : 0 ≤ b + 2) (by omega : b + 2 ≤ 63128)
  have p3 := bd_mul w0 (by omega : w ≤ 63) (by omega : 0 ≤ 3 * (b + 2) + i + k * (b + 2)) (by omega : 3 * (b + 2) + i + k * (b + 2) ≤ 695408)
  omega
theorem ntSettle_bd (n w m i k t : Int) : 0 ≤ ntSettle n w m i k t ∧ ntSettle n w m i k t ≤ 43875838 := by
  unfold ntSettle
  split
  · rename_i h
    have c := ntGood_iff.1 h.1
    have g := bdIn_iff.1 h.2
    have b := ntBehind_bd n w m i k
    have e : ntPatience n w m i k = ntBehind n w m i k + 4 := by unfold ntPatience; rw [if_pos h.1]
    have := nt_prods c.n0 c.n1 c.w0 c.w1 c.i0 c.i1 c.k0 c.k1 (by omega : 0 ≤ t) g.2 b.1 b.2
    omega
  · omega
end Go.Proofs.Ytgcmeoogmjganaa
