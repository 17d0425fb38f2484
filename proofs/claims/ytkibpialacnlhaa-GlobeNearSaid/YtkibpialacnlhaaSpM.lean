/- Least squares by whole numbers: plain mathematics of the numerator and the denominator. Nothing here speaks of one program. -/
namespace Go.Proofs.Ytkibpialacnlhaa

/-- The sum of what each point gives. -/
def sumP (f : Int × Int → Int) : List (Int × Int) → Int
  | [] => 0
  | p :: L => f p + sumP f L
def pX (p : Int × Int) : Int := p.1
def pY (p : Int × Int) : Int := p.2
def pXY (p : Int × Int) : Int := p.1 * p.2
def pXX (p : Int × Int) : Int := p.1 * p.1
def numV (L : List (Int × Int)) : Int := (L.length : Int) * sumP pXY L - sumP pX L * sumP pY L
def denV (L : List (Int × Int)) : Int := (L.length : Int) * sumP pXX L - sumP pX L * sumP pX L
theorem sumP_append (f : Int × Int → Int) : ∀ L M : List (Int × Int), sumP f (L ++ M) = sumP f L + sumP f M
  | [], M => by simp [sumP]
  | p :: L, M => by
    show f p + sumP f (L ++ M) = f p + sumP f L + sumP f M
    rw [sumP_append f L M]
    omega
theorem sumP_snoc (f : Int × Int → Int) (L : List (Int × Int)) (p : Int × Int) : sumP f (L ++ [p]) = sumP f L + f p := by
  rw [sumP_append]
  show _ + (f p + 0) = _
  omega
theorem sumP_nonneg (f : Int × Int → Int) : ∀ L : List (Int × Int), (∀ p ∈ L, 0 ≤ f p) → 0 ≤ sumP f L
  | [], _ => Int.le_refl _
  | p :: L, h => by
    have h1 := h p (List.mem_cons_self ..)
    have h2 := sumP_nonneg f L (fun q hq => h q (List.mem_cons_of_mem _ hq))
    show 0 ≤ f p + sumP f L
    omega
theorem sumP_pos (f : Int × Int → Int) (L : List (Int × Int)) (h : ∀ p ∈ L, 0 < f p) (hL : L ≠ []) : 0 < sumP f L := by
  cases L with
  | nil => exact absurd rfl hL
  | cons p L =>
    have h1 := h p (List.mem_cons_self ..)
    have h2 := sumP_nonneg f L (fun q hq => Int.le_of_lt (h q (List.mem_cons_of_mem _ hq)))
    show 0 < f p + sumP f L
    omega
theorem sumP_nonpos (f : Int × Int → Int) : ∀ L : List (Int × Int), (∀ p ∈ L, f p ≤ 0) → sumP f L ≤ 0
  | [], _ => Int.le_refl _
  | p :: L, h => by
    have h1 := h p (List.mem_cons_self ..)
    have h2 := sumP_nonpos f L (fun q hq => h q (List.mem_cons_of_mem _ hq))
    show f p + sumP f L ≤ 0
    omega
/-- Sums of bounded numbers are bounded. -/
theorem sumP_bd (f : Int × Int → Int) (lo hi : Int) : ∀ L : List (Int × Int), (∀ p ∈ L, lo ≤ f p ∧ f p ≤ hi) → (L.length : Int) * lo ≤ sumP f L ∧ sumP f L ≤ (L.length : Int) * hi
  | [], _ => by simp [sumP]
  | p :: L, h => by
    have h1 := h p (List.mem_cons_self ..)
    have h2 := sumP_bd f lo hi L (fun q hq => h q (List.mem_cons_of_mem _ hq))
    have e1 : ((p :: L).length : Int) * lo = (L.length : Int) * lo + lo := by rw [List.length_cons]; grind
    have e2 : ((p :: L).length : Int) * hi = (L.length : Int) * hi + hi := by rw [List.length_cons]; grind
    rw [e1, e2]
    show _ ≤ f p + sumP f L ∧ f p + sumP f L ≤ _
    omega
/-- What one point more adds to the numerator: the products of how far it is from each of the others. -/
def cross (p : Int × Int) (q : Int × Int) : Int := (p.1 - q.1) * (p.2 - q.2)
def crossX (p : Int × Int) (q : Int × Int) : Int := (p.1 - q.1) * (p.1 - q.1)
theorem sum_cross (p : Int × Int) : ∀ L : List (Int × Int), sumP (cross p) L = (L.length : Int) * (p.1 * p.2) - p.1 * sumP pY L - p.2 * sumP pX L + sumP pXY L
  | [] => by simp [sumP]
  | q :: L => by
    have := sum_cross p L
    show cross p q + sumP (cross p) L = ((q :: L).length : Int) * (p.1 * p.2) - p.1 * (pY q + sumP pY L) - p.2 * (pX q + sumP pX L) + (pXY q + sumP pXY L)
    rw [this, List.length_cons]
    unfold cross pY pX pXY
    grind
theorem sum_crossX (p : Int × Int) : ∀ L : List (Int × Int), sumP (crossX p) L = (L.length : Int) * (p.1 * p.1) - 2 * (p.1 * sumP pX L) + sumP pXX L
  | [] => by simp [sumP]
  | q :: L => by
    have := sum_crossX p L
    show crossX p q + sumP (crossX p) L = ((q :: L).length : Int) * (p.1 * p.1) - 2 * (p.1 * (pX q + sumP pX L)) + (pXX q + sumP pXX L)
    rw [this, List.length_cons]
    unfold crossX pX pXX
    grind
theorem num_snoc (L : List (Int × Int)) (p : Int × Int) : numV (L ++ [p]) = numV L + sumP (cross p) L := by
  rw [sum_cross]
  unfold numV
  rw [sumP_snoc, sumP_snoc, sumP_snoc, List.length_append, List.length_singleton]
  unfold pX pY pXY
  grind
theorem den_snoc (L : List (Int × Int)) (p : Int × Int) : denV (L ++ [p]) = denV L + sumP (crossX p) L := by
  rw [sum_crossX]
  unfold denV
  rw [sumP_snoc, sumP_snoc, List.length_append, List.length_singleton]
  unfold pX pXX
  grind
theorem num_one (p : Int × Int) : numV [p] = 0 := by
  unfold numV
  simp [sumP, pXY, pX, pY]
theorem den_one (p : Int × Int) : denV [p] = 0 := by
  unfold denV
  simp [sumP, pXX, pX]
theorem mul_nonpos_of {a b : Int} (ha : 0 ≤ a) (hb : b ≤ 0) : a * b ≤ 0 := by
  have := Int.mul_le_mul_of_nonneg_left hb ha
  simpa using this
/-- Of points that never fall the numerator is no less than 0, and where they never rise no greater; the denominator is never below 0, and above 0, where the first coordinates rise. -/
theorem num_up : ∀ (n : Nat) (L : List (Int × Int)), L.length = n → L.Pairwise (fun p q => p.1 ≤ q.1 ∧ p.2 ≤ q.2) → 0 ≤ numV L
  | 0, L, hn, _ => by
    obtain rfl := List.eq_nil_of_length_eq_zero hn
    decide
  | n + 1, L, hn, h => by
    rcases List.eq_nil_or_concat L with rfl | ⟨M, p, rfl⟩
    · cases hn
    · rw [List.concat_eq_append] at hn h ⊢
      have hp := List.pairwise_append.1 h
      have h1 := num_up n M (by rw [List.length_append] at hn; simpa using hn) hp.1
      have h2 := sumP_nonneg (cross p) M (fun q hq => by
        have := hp.2.2 q hq p (by simp)
        exact Int.mul_nonneg (by omega) (by omega))
      rw [num_snoc]
      omega
theorem num_down : ∀ (n : Nat) (L : List (Int × Int)), L.length = n → L.Pairwise (fun p q => p.1 ≤ q.1 ∧ q.2 ≤ p.2) → numV L ≤ 0
  | 0, L, hn, _ => by
    obtain rfl := List.eq_nil_of_length_eq_zero hn
    decide
  | n + 1, L, hn, h => by
    rcases List.eq_nil_or_concat L with rfl | ⟨M, p, rfl⟩
    · cases hn
    · rw [List.concat_eq_append] at hn h ⊢
      have hp := List.pairwise_append.1 h
      have h1 := num_down n M (by rw [List.length_append] at hn; simpa using hn) hp.1
      have h2 := sumP_nonpos (cross p) M (fun q hq => by
        have := hp.2.2 q hq p (by simp)
        exact mul_nonpos_of (by omega) (by omega))
      rw [num_snoc]
      omega
theorem sq_nonneg (a : Int) : 0 ≤ a * a := by
  rcases Int.le_total 0 a with h | h
  · exact Int.mul_nonneg h h
  · have := Int.mul_nonneg (show 0 ≤ -a by omega) (show 0 ≤ -a by omega)
    rw [Int.neg_mul_neg] at this
    exact this
theorem den_nonneg : ∀ (n : Nat) (L : List (Int × Int)), L.length = n → 0 ≤ denV L
  | 0, L, hn => by
    obtain rfl := List.eq_nil_of_length_eq_zero hn
    decide
  | n + 1, L, hn => by
    rcases List.eq_nil_or_concat L with rfl | ⟨M, p, rfl⟩
    · cases hn
    · rw [List.concat_eq_append] at hn ⊢
      have h1 := den_nonneg n M (by rw [List.length_append] at hn; simpa using hn)
      have h2 := sumP_nonneg (crossX p) M (fun q _ => sq_nonneg _)
      rw [den_snoc]
      omega
theorem den_pos {L : List (Int × Int)} (h2 : 2 ≤ L.length) (h : L.Pairwise (fun p q => p.1 < q.1)) : 0 < denV L := by
  rcases List.eq_nil_or_concat L with rfl | ⟨M, p, rfl⟩
  · simp at h2
  · rw [List.concat_eq_append] at h2 h ⊢
    have hp := List.pairwise_append.1 h
    have hM : M ≠ [] := by
      rintro rfl
      simp at h2
    have h1 := den_nonneg _ M rfl
    have h3 := sumP_pos (crossX p) M (fun q hq => by
      have := hp.2.2 q hq p (by simp)
      exact Int.mul_pos (by omega) (by omega)) hM
    rw [den_snoc]
    omega
/-- Points on a line: so much more for each so much. -/
def onLine (gain of : Int) (t : Int) : Int × Int := (t * of, t * gain)
theorem sumP_line (gain of : Int) : ∀ T : List Int, sumP pX (T.map (onLine gain of)) = of * sumP pX (T.map (fun t => (t, t))) ∧ sumP pY (T.map (onLine gain of)) = gain * sumP pX (T.map (fun t => (t, t))) ∧
    sumP pXY (T.map (onLine gain of)) = of * gain * sumP pXX (T.map (fun t => (t, t))) ∧ sumP pXX (T.map (onLine gain of)) = of * of * sumP pXX (T.map (fun t => (t, t)))
  | [] => by simp [sumP]
  | t :: T => by
    obtain ⟨h1, h2, h3, h4⟩ := sumP_line gain of T
    simp only [List.map_cons, sumP, h1, h2, h3, h4]
    unfold pX pY pXY pXX onLine
    refine ⟨by grind, by grind, by grind, by grind⟩
theorem line_num (gain of : Int) (T : List Int) : numV (T.map (onLine gain of)) = of * gain * denV (T.map (fun t => (t, t))) := by
  obtain ⟨h1, h2, h3, h4⟩ := sumP_line gain of T
  unfold numV denV
  rw [h1, h2, h3, List.length_map, List.length_map]
  grind
theorem line_den (gain of : Int) (T : List Int) : denV (T.map (onLine gain of)) = of * of * denV (T.map (fun t => (t, t))) := by
  obtain ⟨h1, h2, h3, h4⟩ := sumP_line gain of T
  unfold denV
  rw [h1, h4, List.length_map, List.length_map]
  grind

/-- No more than the greatest fraction that can be, c / d, and no less than its opposite. -/
def clampS (a b c d : Int) : Int × Int := if c * b < a * d then (c, d) else if c * b < -a * d then (-c, d) else (a, b)
theorem clamp_bound {a b c d : Int} (hb : 0 < b) (hc : 0 ≤ c) (hd : 0 < d) : (clampS a b c d).2 > 0 ∧ (clampS a b c d).1 * d ≤ c * (clampS a b c d).2 ∧ -(clampS a b c d).1 * d ≤ c * (clampS a b c d).2 := by
  have hcd : 0 ≤ c * d := Int.mul_nonneg hc (Int.le_of_lt hd)
  unfold clampS
  split
  · refine ⟨hd, Int.le_refl _, ?_⟩
    show -c * d ≤ c * d
    rw [Int.neg_mul]
    omega
  · split
    · refine ⟨hd, ?_, ?_⟩
      · show -c * d ≤ c * d
        rw [Int.neg_mul]
        omega
      · show - -c * d ≤ c * d
        rw [Int.neg_neg]
        exact Int.le_refl _
    · refine ⟨hb, ?_, ?_⟩
      · show a * d ≤ c * b
        omega
      · show -a * d ≤ c * b
        omega
/-- Of so many points so near the sums stay within 2^50. -/
theorem prod_bd {x y m k : Int} (hx : -m ≤ x ∧ x ≤ m) (hy : -k ≤ y ∧ y ≤ k) : -(m * k) ≤ x * y ∧ x * y ≤ m * k := by
  have h1 := Int.mul_nonneg (show 0 ≤ m - x by omega) (show 0 ≤ k - y by omega)
  have h2 := Int.mul_nonneg (show 0 ≤ m + x by omega) (show 0 ≤ k + y by omega)
  have h3 := Int.mul_nonneg (show 0 ≤ m - x by omega) (show 0 ≤ k + y by omega)
  have h4 := Int.mul_nonneg (show 0 ≤ m + x by omega) (show 0 ≤ k - y by omega)
  refine ⟨by grind, by grind⟩

/-- Is a / b greater than c / d? Reckoned bit by bit of d: behind the bits from the tenth down to bit n + 1, q and r are a times those, by b. -/
def OvI (a b d n q r : Int) : Prop := -1 ≤ n ∧ n ≤ 9 ∧ 0 ≤ q ∧ 0 ≤ r ∧ r < b ∧ q * b + r = a * (d / 2 ^ (n + 1).toNat)
theorem ov_start {a b d : Int} (hb : 0 < b) (h0 : 0 ≤ d) (h1 : d < 1024) : OvI a b d 9 0 0 := by
  refine ⟨by decide, Int.le_refl _, Int.le_refl _, Int.le_refl _, hb, ?_⟩
  have e : d / 2 ^ ((9 : Int) + 1).toNat = 0 := by
    show d / 1024 = 0
    omega
  rw [e]
  simp
theorem ov_half (d : Int) (j : Nat) : d / 2 ^ j = 2 * (d / 2 ^ ((j : Int) + 1).toNat) + d / 2 ^ j % 2 := by
  have e : d / 2 ^ ((j : Int) + 1).toNat = d / 2 ^ j / 2 := by
    rw [show ((j : Int) + 1).toNat = j + 1 by omega, Int.pow_succ, Int.ediv_ediv_of_nonneg (Int.le_of_lt (Int.pow_pos (by decide)))]
  rw [e]
  omega
theorem ov_dbl {q r b : Int} (h0 : 0 ≤ r) (h1 : r < b) : (b ≤ 2 * r → (2 * q + 1) * b + (2 * r - b) = 2 * (q * b + r) ∧ 0 ≤ 2 * r - b ∧ 2 * r - b < b) ∧ (¬ b ≤ 2 * r → 2 * q * b + 2 * r = 2 * (q * b + r) ∧ 0 ≤ 2 * r ∧ 2 * r < b) :=
  ⟨fun h => ⟨by grind, by omega, by omega⟩, fun h => ⟨by grind, by omega, by omega⟩⟩
theorem ov_add {q r b a : Int} (hb : 0 < b) (h0 : 0 ≤ r) (h1 : r < b) :
    (b ≤ r + a % b → (q + a / b + 1) * b + (r + a % b - b) = q * b + r + a ∧ 0 ≤ r + a % b - b ∧ r + a % b - b < b) ∧ (¬ b ≤ r + a % b → (q + a / b) * b + (r + a % b) = q * b + r + a ∧ 0 ≤ r + a % b ∧ r + a % b < b) := by
  have e := Int.emod_add_mul_ediv a b
  have m0 := Int.emod_nonneg a (show b ≠ 0 by omega)
  have m1 := Int.emod_lt_of_pos a hb
  exact ⟨fun h => ⟨by grind, by omega, by omega⟩, fun h => ⟨by grind, by omega, by omega⟩⟩
/-- One bit on: it is 0, or 1. -/
theorem ov_zero {a b d q r q2 r2 : Int} {j : Nat} (h : OvI a b d j q r) (hq : 0 ≤ q2) (h2 : q2 * b + r2 = 2 * (q * b + r)) (h0 : 0 ≤ r2) (h1 : r2 < b) (hbit : d / 2 ^ j % 2 = 0) : OvI a b d ((j : Int) - 1) q2 r2 := by
  obtain ⟨_, k2, _, _, _, k6⟩ := h
  have hh := ov_half d j
  refine ⟨by omega, by omega, hq, h0, h1, ?_⟩
  rw [show ((j : Int) - 1 + 1).toNat = j by omega, h2, k6, hh, hbit]
  grind
theorem ov_one {a b d q r q2 r2 q3 r3 : Int} {j : Nat} (h : OvI a b d j q r) (hq : 0 ≤ q3) (h2 : q2 * b + r2 = 2 * (q * b + r)) (h3 : q3 * b + r3 = q2 * b + r2 + a) (h0 : 0 ≤ r3) (h1 : r3 < b) (hbit : d / 2 ^ j % 2 = 1) : OvI a b d ((j : Int) - 1) q3 r3 := by
  obtain ⟨_, k2, _, _, _, k6⟩ := h
  have hh := ov_half d j
  refine ⟨by omega, by omega, hq, h0, h1, ?_⟩
  rw [show ((j : Int) - 1 + 1).toNat = j by omega, h3, h2, k6, hh, hbit]
  grind
theorem ov_end {a b c d q r : Int} (h : OvI a b d (-1) q r) : (c < q ∨ c = q ∧ 0 < r) ↔ c * b < a * d := by
  obtain ⟨_, _, h0, h1, h2, h3⟩ := h
  have e : d / 2 ^ ((-1 : Int) + 1).toNat = d := Int.ediv_one d
  rw [e] at h3
  have hb : 0 < b := by omega
  constructor
  · rintro (h | ⟨rfl, h⟩)
    · have := Int.mul_le_mul_of_nonneg_right (show c + 1 ≤ q by omega) (Int.le_of_lt hb)
      have e2 : (c + 1) * b = c * b + b := by grind
      omega
    · omega
  · intro h
    by_cases g : c < q
    · exact .inl g
    · by_cases g2 : c = q
      · subst g2
        exact .inr ⟨rfl, by omega⟩
      · exfalso
        have := Int.mul_le_mul_of_nonneg_right (show q + 1 ≤ c by omega) (Int.le_of_lt hb)
        have e2 : (q + 1) * b = q * b + b := by grind
        omega
/-- How great q may be, all the way. -/
theorem ov_bound {a b d n q r : Int} (h : OvI a b d n q r) (ha : 0 ≤ a) (h0 : 0 ≤ d) (h1 : d < 1024) : q ≤ a * 1023 := by
  obtain ⟨_, _, k0, k1, k2, k3⟩ := h
  have hd : 0 ≤ d / 2 ^ (n + 1).toNat ∧ d / 2 ^ (n + 1).toNat ≤ 1023 := by
    refine ⟨Int.ediv_nonneg h0 (Int.le_of_lt (Int.pow_pos (by decide))), ?_⟩
    have := Int.ediv_le_self (2 ^ (n + 1).toNat) h0
    omega
  have e1 := Int.mul_le_mul_of_nonneg_left hd.2 ha
  have e2 := Int.mul_le_mul_of_nonneg_left (show 1 ≤ b by omega) k0
  omega
end Go.Proofs.Ytkibpialacnlhaa
