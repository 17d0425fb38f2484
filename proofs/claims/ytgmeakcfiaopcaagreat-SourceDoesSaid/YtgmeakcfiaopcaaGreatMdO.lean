/- The document's own reckoning of a quotient of 128 bits (package angelusref01), for the seats of later layers. -/
import Derived.Test.YtgmeakcfiaopcaaGreatMdE
namespace Go.Proofs.YtgmeakcfiaopcaaGreat
open Go.RowKit

theorem rsize_any (n : Int) (w : World) (h : Fits n) :
    Calls Tryz.prog 106 #[.int .i64 n] w fun e w' => e = .returned (.int .u64 (sizeV n)) ∧ w = w' := by
  obtain ⟨h1, h2⟩ := h
  by_cases c : n < 0
  · go_enter Tryz.func106, Tryz.ntmps106
    go_wp2
    go_ret
    exact ⟨ret_int (by unfold sizeV; rw [if_pos c]; omega), rfl⟩
  · go_enter Tryz.func106, Tryz.ntmps106
    go_wp2
    go_ret
    exact ⟨ret_int (by unfold sizeV; rw [if_neg (by omega)]), rfl⟩
def wide (p0 p1 p2 p3 : Int) : Int := p0 + p1 * 4294967296 + p2 * 18446744073709551616 + p3 * 79228162514264337593543950336
def wpart (p0 p1 p2 p3 : Int) (m : Nat) : Int := if m = 0 then p0 else if m = 1 then p1 else if m = 2 then p2 else p3
def P32 (p : Int) : Prop := 0 ≤ p ∧ p ≤ 4294967295
theorem wpart_bd {p0 p1 p2 p3 : Int} (h0 : P32 p0) (h1 : P32 p1) (h2 : P32 p2) (h3 : P32 p3) (m : Nat) : P32 (wpart p0 p1 p2 p3 m) := by
  unfold wpart
  split
  · exact h0
  · split
    · exact h1
    · split
      · exact h2
      · exact h3
theorem and_one (a : Int) (h : 0 ≤ a) (h' : a ≤ 18446744073709551615) : bits .and .u64 a 1 = a % 2 := by
  obtain ⟨n, rfl⟩ := Int.eq_ofNat_of_zero_le h
  have e := bits_and_u64_nat n 1 (by omega) (by omega)
  rw [show n &&& 1 = n % 2 from Nat.and_two_pow_sub_one_eq_mod n 1] at e
  exact e
theorem div_pow_add (x : Int) (a b : Nat) : x / 2 ^ (a + b) = x / 2 ^ a / 2 ^ b := by
  rw [Int.pow_add, Int.ediv_ediv_of_nonneg (Int.le_of_lt (Int.pow_pos (by decide)))]
theorem low_bit (p R : Int) (s : Nat) (hs : s ≤ 31) : (p + 4294967296 * R) / 2 ^ s % 2 = p / 2 ^ s % 2 := by
  have hp : (2 : Int) ^ s * (2 ^ (31 - s) * 2) = 4294967296 := by
    rw [← Int.mul_assoc, ← Int.pow_add, show s + (31 - s) = 31 by omega]; rfl
  have e : p + 4294967296 * R = p + 2 ^ s * (2 * (2 ^ (31 - s) * R)) := by rw [← hp]; grind
  rw [e, Int.add_mul_ediv_left _ _ (Int.ne_of_gt (Int.pow_pos (by decide)))]
  omega
theorem bit_at {p0 p1 p2 p3 : Int} (h0 : P32 p0) (h1 : P32 p1) (h2 : P32 p2) (h3 : P32 p3) (j : Nat) (hj : j ≤ 127) :
    bits .and .u64 (wpart p0 p1 p2 p3 (j / 32) / 2 ^ (j % 32)) 1 = wide p0 p1 p2 p3 / 2 ^ j % 2 := by
  obtain ⟨b0, b1⟩ := wpart_bd h0 h1 h2 h3 (j / 32)
  rw [and_one _ (Int.ediv_nonneg b0 (Int.le_of_lt (Int.pow_pos (by decide)))) (by have := Int.ediv_le_self (a := wpart p0 p1 p2 p3 (j / 32)) (2 ^ (j % 32)) b0; omega)]
  obtain ⟨m, s, hm, hs, rfl⟩ : ∃ m s, m ≤ 3 ∧ s ≤ 31 ∧ j = 32 * m + s := ⟨j / 32, j % 32, by omega, by omega, by omega⟩
  rw [show (32 * m + s) / 32 = m by omega, show (32 * m + s) % 32 = s by omega, div_pow_add]
  obtain ⟨a0, c0⟩ := h0
  obtain ⟨a1, c1⟩ := h1
  obtain ⟨a2, c2⟩ := h2
  have hc : m = 0 ∨ m = 1 ∨ m = 2 ∨ m = 3 := by omega
  rcases hc with rfl | rfl | rfl | rfl
  · have e : wide p0 p1 p2 p3 / 2 ^ (32 * 0) = p0 + 4294967296 * (p1 + p2 * 4294967296 + p3 * 18446744073709551616) := by
      show wide p0 p1 p2 p3 / 1 = _
      unfold wide; omega
    rw [e, low_bit _ _ _ hs]; rfl
  · have e : wide p0 p1 p2 p3 / 2 ^ (32 * 1) = p1 + 4294967296 * (p2 + p3 * 4294967296) := by
      show wide p0 p1 p2 p3 / 4294967296 = _
      unfold wide; omega
    rw [e, low_bit _ _ _ hs]; rfl
  · have e : wide p0 p1 p2 p3 / 2 ^ (32 * 2) = p2 + 4294967296 * p3 := by
      show wide p0 p1 p2 p3 / 18446744073709551616 = _
      unfold wide; omega
    rw [e, low_bit _ _ _ hs]; rfl
  · have e : wide p0 p1 p2 p3 / 2 ^ (32 * 3) = p3 + 4294967296 * 0 := by
      show wide p0 p1 p2 p3 / 79228162514264337593543950336 = _
      unfold wide; omega
    rw [e, low_bit _ _ _ hs]; rfl

/-- What holds ahead of bit n: the quotient, the rest, and whether it fits, of what is above. -/
def OInv (P c n q r : Int) (f : Bool) : Prop :=
  -1 ≤ n ∧ n ≤ 127 ∧ q = P / 2 ^ (n + 1).toNat / c % 18446744073709551616 ∧ r = P / 2 ^ (n + 1).toNat % c ∧ f = decide (P / 2 ^ (n + 1).toNat / c < 18446744073709551616)
theorem o_start (P c : Int) (h0 : 0 ≤ P) (h1 : P < 340282366920938463463374607431768211456) : OInv P c 127 0 0 true := by
  have e : P / 2 ^ (127 + 1 : Int).toNat = 0 := Int.ediv_eq_zero_of_lt h0 h1
  refine ⟨by omega, by omega, ?_, ?_, ?_⟩ <;> rw [e] <;> simp
theorem o_half (P : Int) (j : Nat) : P / 2 ^ ((j : Int) + 1).toNat = P / 2 ^ j / 2 := by
  rw [show ((j : Int) + 1).toNat = j + 1 by omega, div_pow_add]; rfl
/-- One bit more: the two ways. -/
theorem o_step (P c : Int) (j : Nat) (q r : Int) (f : Bool) (hP : 0 ≤ P) (hc : 1 ≤ c) (hk : OInv P c j q r f) (b : Int) (hb : b = P / 2 ^ j % 2) :
    (2 * r + b < c → OInv P c ((j : Int) - 1) (IntKind.u64.wrap (2 * q)) (2 * r + b) (f && !decide (9223372036854775808 ≤ q))) ∧
    (c ≤ 2 * r + b → OInv P c ((j : Int) - 1) (IntKind.u64.wrap (IntKind.u64.wrap (2 * q) + 1)) (2 * r + b - c) (f && !decide (9223372036854775808 ≤ q))) := by
  obtain ⟨n0, n1, hq, hr, hf⟩ := hk
  rw [o_half] at hq hr hf
  have ej : ((j : Int) - 1 + 1).toNat = j := by omega
  have hX0 : 0 ≤ P / 2 ^ j := Int.ediv_nonneg hP (Int.le_of_lt (Int.pow_pos (by decide)))
  unfold OInv
  rw [ej]
  generalize P / 2 ^ j = X' at *
  obtain ⟨X, hX⟩ : ∃ X, X = X' / 2 := ⟨_, rfl⟩
  rw [← hX] at hq hr hf
  have e1 := Int.emod_add_mul_ediv X c
  rw [← hr] at e1
  have r0 : 0 ≤ r := by rw [hr]; exact Int.emod_nonneg _ (by omega)
  have r1 : r < c := by rw [hr]; exact Int.emod_lt_of_pos _ (by omega)
  have q0 : 0 ≤ X / c := Int.ediv_nonneg (by omega) (by omega)
  generalize X / c = Q at *
  have eX : X' = 2 * X + b := by omega
  have key : ∀ (R D : Int), 0 ≤ R → R < c → R + c * D = X' → X' / c = D ∧ X' % c = R := fun R D g1 g2 g3 =>
    (Int.ediv_emod_unique (by omega)).2 ⟨g3, g1, g2⟩
  have ff : ∀ D : Int, (D = 2 * Q ∨ D = 2 * Q + 1) → (f && !decide (9223372036854775808 ≤ q)) = decide (D < 18446744073709551616) := by
    intro D hD
    rw [hf, hq, Bool.eq_iff_iff]
    simp only [Bool.and_eq_true, Bool.not_eq_true', decide_eq_true_eq, decide_eq_false_iff_not]
    omega
  constructor
  · intro hlt
    obtain ⟨k1, k2⟩ := key (2 * r + b) (2 * Q) (by omega) hlt (by rw [eX, ← e1]; grind)
    rw [k1, k2]
    exact ⟨by omega, by omega, by rw [hq, wrap_u64]; omega, rfl, ff _ (Or.inl rfl)⟩
  · intro hge
    obtain ⟨k1, k2⟩ := key (2 * r + b - c) (2 * Q + 1) (by omega) (by omega) (by rw [eX, ← e1]; grind)
    rw [k1, k2]
    exact ⟨by omega, by omega, by rw [hq, wrap_u64, wrap_u64]; omega, rfl, ff _ (Or.inr rfl)⟩
theorem o_end (P c q r : Int) (f : Bool) (hk : OInv P c (-1) q r f) : q = P / c % 18446744073709551616 ∧ r = P % c ∧ f = decide (P / c < 18446744073709551616) := by
  obtain ⟨_, _, hq, hr, hf⟩ := hk
  have e : P / 2 ^ ((-1 : Int) + 1).toNat = P := Int.ediv_one P
  rw [e] at hq hr hf
  exact ⟨hq, hr, hf⟩
theorem ret_iib2 {k l : IntKind} {a b c d : Int} {o p : Bool} (h : a = b) (g : c = d) (i : o = p) : Ending.returned (.tuple #[.int k a, .int l c, .bool o]) = .returned (.tuple #[.int k b, .int l d, .bool p]) := by rw [h, g, i]
theorem wide_bd {p0 p1 p2 p3 : Int} (h0 : P32 p0) (h1 : P32 p1) (h2 : P32 p2) (h3 : P32 p3) : 0 ≤ wide p0 p1 p2 p3 ∧ wide p0 p1 p2 p3 < 340282366920938463463374607431768211456 := by
  unfold wide
  obtain ⟨a0, c0⟩ := h0
  obtain ⟨a1, c1⟩ := h1
  obtain ⟨a2, c2⟩ := h2
  obtain ⟨a3, c3⟩ := h3
  omega
theorem four_cell (p0 p1 p2 p3 : Int) (w : World) (j : Nat) (hj : j ≤ 127) :
    (w.alloc (.cells #[.int .u64 p0, .int .u64 p1, .int .u64 p2, .int .u64 p3] 196)).cell? ⟨w.heap.size, j / 32, none⟩ = some (.int .u64 (wpart p0 p1 p2 p3 (j / 32))) := by
  have hc : j / 32 = 0 ∨ j / 32 = 1 ∨ j / 32 = 2 ∨ j / 32 = 3 := by omega
  rcases hc with h | h | h | h <;> rw [h] <;> go_simp <;> rfl
set_option maxHeartbeats 1000000 in
theorem over_any (p0 p1 p2 p3 c : Int) (w : World) (h0 : P32 p0) (h1 : P32 p1) (h2 : P32 p2) (h3 : P32 p3) (hc : 1 ≤ c) (hc' : c ≤ 9223372036854775807) :
    Calls Tryz.prog 104 #[.agg #[.int .u64 p0, .int .u64 p1, .int .u64 p2, .int .u64 p3], .int .u64 c] w fun e w' =>
      e = .returned (.tuple #[.int .u64 (wide p0 p1 p2 p3 / c % 18446744073709551616), .int .u64 (wide p0 p1 p2 p3 % c), .bool (decide (wide p0 p1 p2 p3 / c < 18446744073709551616))]) ∧ Below w.heap.size w w' := by
  have S := o_start (wide p0 p1 p2 p3) c (wide_bd h0 h1 h2 h3).1 (wide_bd h0 h1 h2 h3).2
  go_enter Tryz.func104, Tryz.ntmps104
  go_wp2
  go_loop [7, 8, 9, 10] (fun q r f i => ∃ (qi ri n : Int) (fb : Bool), OInv (wide p0 p1 p2 p3) c n qi ri fb ∧ q = .int .u64 qi ∧ r = .int .u64 ri ∧ f = .bool fb ∧ i = .int .i64 n) (fun _ _ _ i => (intOf i + 1).toNat)
  case atStart => exact ⟨_, _, _, _, S, rfl, rfl, rfl, rfl⟩
  case round =>
    obtain ⟨q, r, n, f, hk, rfl, rfl, rfl, rfl⟩ := hrel
    have n0 := hk.1
    have n1 := hk.2.1
    by_cases hn : n = -1
    · subst hn
      have E := Lib.hid (o_end _ _ _ _ _ hk)
      clear hk S
      go_wp2
      go_ret3
      exact ⟨ret_iib2 E.out.1 E.out.2.1 E.out.2.2, (Below.refl _ _).alloc (Nat.le_refl _) _⟩
    · obtain ⟨j, rfl⟩ := Int.eq_ofNat_of_zero_le (show 0 ≤ n by omega)
      have hj : j ≤ 127 := by omega
      have hcell := four_cell p0 p1 p2 p3 w j hj
      have hbit := bit_at h0 h1 h2 h3 j hj
      have hpb := wpart_bd h0 h1 h2 h3 (j / 32)
      obtain ⟨b, hb⟩ : ∃ b, b = wide p0 p1 p2 p3 / 2 ^ j % 2 := ⟨_, rfl⟩
      rw [← hb] at hbit
      obtain ⟨hpb0, hpb1⟩ := hpb
      have hb0 : 0 ≤ b ∧ b ≤ 1 := by omega
      obtain ⟨hb0, hb1⟩ := hb0
      obtain ⟨s1, s2⟩ := o_step _ c j q r f (wide_bd h0 h1 h2 h3).1 hc hk b hb
      have r0 : 0 ≤ r := by rw [hk.2.2.2.1]; exact Int.emod_nonneg _ (by omega)
      have r1 : r < c := by rw [hk.2.2.2.1]; exact Int.emod_lt_of_pos _ (by omega)
      clear hb hk S hn n0 n1
      by_cases c1 : 2 * r + b < c
      · have H1 := s1 c1
        clear s1 s2
        by_cases c2 : 9223372036854775808 ≤ q
        · have e2 : (f && !decide (9223372036854775808 ≤ q)) = false := by simp [c2]
          rw [e2] at H1
          have H := Lib.hid H1
          clear H1 e2
          go_wp2
          go_round
          case rel => exact ⟨_, _, _, _, H.out, rfl, rfl, rfl, rfl⟩
          case measure => simp [intOf]
        · have e2 : (f && !decide (9223372036854775808 ≤ q)) = f := by simp [c2]
          rw [e2] at H1
          have H := Lib.hid H1
          clear H1 e2
          go_wp2
          go_round
          case rel => exact ⟨_, _, _, _, H.out, rfl, rfl, rfl, rfl⟩
          case measure => simp [intOf]
      · have H1 := s2 (by omega)
        clear s1 s2
        by_cases c2 : 9223372036854775808 ≤ q
        · have e2 : (f && !decide (9223372036854775808 ≤ q)) = false := by simp [c2]
          rw [e2] at H1
          have H := Lib.hid H1
          clear H1 e2
          go_wp2
          go_round
          case rel => exact ⟨_, _, _, _, H.out, rfl, rfl, rfl, rfl⟩
          case measure => simp [intOf]
        · have e2 : (f && !decide (9223372036854775808 ≤ q)) = f := by simp [c2]
          rw [e2] at H1
          have H := Lib.hid H1
          clear H1 e2
          go_wp2
          go_round
          case rel => exact ⟨_, _, _, _, H.out, rfl, rfl, rfl, rfl⟩
          case measure => simp [intOf]
end Go.Proofs.YtgmeakcfiaopcaaGreat
