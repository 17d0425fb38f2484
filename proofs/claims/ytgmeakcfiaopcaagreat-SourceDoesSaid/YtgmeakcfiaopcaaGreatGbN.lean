/- Maps from one clock's time to another's: how near they are, where all entries were. Plain mathematics. -/
import Derived.Test.YtgmeakcfiaopcaaGreatGbM
namespace Go.Proofs.YtgmeakcfiaopcaaGreat
open Go.RowKit
set_option linter.unusedVariables false

def sumE (f : Ent → Int) : List Ent → Int
  | [] => 0
  | x :: L => f x + sumE f L
def entL (e : Ent) : Int := e.1
def entO (e : Ent) : Int := e.2.1
theorem sumE_append (f : Ent → Int) : ∀ L M : List Ent, sumE f (L ++ M) = sumE f L + sumE f M
  | [], M => by simp [sumE]
  | x :: L, M => by
    show f x + sumE f (L ++ M) = f x + sumE f L + sumE f M
    rw [sumE_append f L M]
    omega
theorem sumE_snoc (f : Ent → Int) (L : List Ent) (x : Ent) : sumE f (L ++ [x]) = sumE f L + f x := by
  rw [sumE_append]
  show _ + (f x + 0) = _
  omega
theorem sumE_bd (f : Ent → Int) (lo hi : Int) : ∀ L : List Ent, (∀ x ∈ L, lo ≤ f x ∧ f x ≤ hi) → (L.length : Int) * lo ≤ sumE f L ∧ sumE f L ≤ (L.length : Int) * hi
  | [], _ => by simp [sumE]
  | x :: L, h => by
    have h1 := h x (List.mem_cons_self ..)
    have h2 := sumE_bd f lo hi L (fun q hq => h q (List.mem_cons_of_mem _ hq))
    have e1 : ((x :: L).length : Int) * lo = (L.length : Int) * lo + lo := by rw [List.length_cons]; grind
    have e2 : ((x :: L).length : Int) * hi = (L.length : Int) * hi + hi := by rw [List.length_cons]; grind
    rw [e1, e2]
    show _ ≤ f x + sumE f L ∧ f x + sumE f L ≤ _
    omega
/-- A mean, rounded down, of numbers within bounds is within these. -/
theorem mean_bd {S n lo hi : Int} (hn : 0 < n) (h : n * lo ≤ S ∧ S ≤ n * hi) : lo ≤ S / n ∧ S / n ≤ hi := by
  constructor
  · rw [Int.le_ediv_iff_mul_le hn, Int.mul_comm]
    exact h.1
  · rw [← Int.lt_add_one_iff, Int.ediv_lt_iff_lt_mul hn, Int.add_mul, Int.mul_comm hi n]
    omega
/-- An entry that was right, but for off ticks, of a clock that is ahead by O at the time q, and gains no more than c in each e ticks. -/
structure Right (c e q O off first : Int) (x : Ent) : Prop where
  lo : first ≤ x.1
  hi : x.1 ≤ q
  up : e * (x.2.1 - O) ≤ c * (q - x.1) + e * off
  down : e * (O - x.2.1) ≤ c * (q - x.1) + e * off
theorem Right.step {c e q O off first k g : Int} {x : Ent} (h : Right c e q O off first x) (he : 0 < e) (hk : 0 ≤ k) (h1 : -(c * k / e) ≤ g) (h2 : g ≤ c * k / e) : Right c e (q + k) (O + g) off first x := by
  obtain ⟨lo, hi, up, down⟩ := h
  have f1 := Int.emod_add_mul_ediv (c * k) e
  have f2 := Int.emod_nonneg (c * k) (show e ≠ 0 by omega)
  have g1 := Int.mul_le_mul_of_nonneg_left h2 (Int.le_of_lt he)
  have g2 := Int.mul_le_mul_of_nonneg_left h1 (Int.le_of_lt he)
  rw [Int.mul_neg] at g2
  generalize c * k / e = F at *
  have e1 : e * (x.2.1 - (O + g)) = e * (x.2.1 - O) - e * g := by grind
  have e2 : e * (O + g - x.2.1) = e * (O - x.2.1) + e * g := by grind
  have e3 : c * (q + k - x.1) = c * (q - x.1) + c * k := by grind
  refine ⟨lo, by omega, ?_, ?_⟩
  · rw [e1, e3]; omega
  · rw [e2, e3]; omega
theorem Right.new {c e q O off first err h : Int} (he : 0 < e) (hf : first ≤ q) (h1 : -off ≤ err) (h2 : err ≤ off) : Right c e q O off first (q, O + err, h) := by
  have m1 := Int.mul_le_mul_of_nonneg_left h1 (Int.le_of_lt he)
  have m2 := Int.mul_le_mul_of_nonneg_left h2 (Int.le_of_lt he)
  rw [Int.mul_neg] at m1
  refine ⟨hf, Int.le_refl _, ?_, ?_⟩
  · have e1 : e * (O + err - O) = e * err := by grind
    have e2 : c * (q - q) = 0 := by grind
    show e * (O + err - O) ≤ c * (q - q) + e * off
    rw [e1, e2]; omega
  · have e1 : e * (O - (O + err)) = -(e * err) := by grind
    have e2 : c * (q - q) = 0 := by grind
    show e * (O - (O + err)) ≤ c * (q - q) + e * off
    rw [e1, e2]; omega
theorem right_sum {c e q O off first : Int} : ∀ {L : List Ent}, (∀ x ∈ L, Right c e q O off first x) →
    (L.length : Int) * first ≤ sumE entL L ∧ sumE entL L ≤ (L.length : Int) * q ∧
    e * (sumE entO L - (L.length : Int) * O) ≤ c * ((L.length : Int) * q - sumE entL L) + (L.length : Int) * (e * off) ∧
    e * ((L.length : Int) * O - sumE entO L) ≤ c * ((L.length : Int) * q - sumE entL L) + (L.length : Int) * (e * off)
  | [], _ => by simp [sumE]
  | x :: L, h => by
    obtain ⟨k1, k2, k3, k4⟩ := right_sum (L := L) (fun y hy => h y (List.mem_cons_of_mem _ hy))
    obtain ⟨lo, hi, up, down⟩ := h x (List.mem_cons_self ..)
    have hl : ((x :: L).length : Int) = (L.length : Int) + 1 := by simp
    have s1 : sumE entL (x :: L) = x.1 + sumE entL L := rfl
    have s2 : sumE entO (x :: L) = x.2.1 + sumE entO L := rfl
    rw [hl, s1, s2]
    generalize (L.length : Int) = n at *
    generalize sumE entL L = S at *
    generalize sumE entO L = T at *
    have e1 : (n + 1) * first = n * first + first := by grind
    have e2 : (n + 1) * q = n * q + q := by grind
    have e3 : e * (x.2.1 + T - (n + 1) * O) = e * (x.2.1 - O) + e * (T - n * O) := by grind
    have e4 : e * ((n + 1) * O - (x.2.1 + T)) = e * (O - x.2.1) + e * (n * O - T) := by grind
    have e5 : c * ((n + 1) * q - (x.1 + S)) + (n + 1) * (e * off) = c * (q - x.1) + e * off + (c * (n * q - S) + n * (e * off)) := by grind
    refine ⟨by omega, by omega, ?_, ?_⟩
    · rw [e3, e5]; omega
    · rw [e4, e5]; omega
/-- How near the time is that such entries tell. -/
theorem near_bound {c e a b q O off first : Int} {L : List Ent} (hs : SlOk c e a b) (hL : L ≠ []) (h : ∀ x ∈ L, Right c e q O off first x) :
    -(off + 2 * (c * (q - first) / e) + 4) ≤ sumE entO L / (L.length : Int) + a * (q - sumE entL L / (L.length : Int)) / b - O ∧
    sumE entO L / (L.length : Int) + a * (q - sumE entL L / (L.length : Int)) / b - O ≤ off + 2 * (c * (q - first) / e) + 4 := by
  obtain ⟨k1, k2, k3, k4⟩ := right_sum h
  have hn : 0 < (L.length : Int) := by
    have := List.length_pos_iff.2 hL
    omega
  generalize hS : sumE entL L = S at *
  generalize hT : sumE entO L = T at *
  generalize hnn : (L.length : Int) = n at *
  have a1 := Int.emod_add_mul_ediv S n
  have a2 := Int.emod_nonneg S (show n ≠ 0 by omega)
  have a3 := Int.emod_lt_of_pos S hn
  have b1 := Int.emod_add_mul_ediv T n
  have b2 := Int.emod_nonneg T (show n ≠ 0 by omega)
  have b3 := Int.emod_lt_of_pos T hn
  obtain ⟨l1, l2⟩ := mean_bd (S := S) (lo := first) (hi := q) hn ⟨k1, k2⟩
  have he0 : 0 < e := by have := hs.e0; omega
  have hb := hs.b1
  have g1 := Int.emod_add_mul_ediv (c * (q - first)) e
  have g2 := Int.emod_nonneg (c * (q - first)) (show e ≠ 0 by omega)
  have g3 := Int.emod_lt_of_pos (c * (q - first)) he0
  obtain ⟨q1, q2⟩ := hs.quot (q - S / n)
  generalize hl : S / n = l at *
  generalize hm : T / n = m at *
  generalize hF : c * (q - first) / e = F at *
  generalize hG : a * (q - l) / b = G at *
  have hql : 0 ≤ q - l := by omega
  -- what the slope gains, by the greatest one
  have u1 := Int.mul_le_mul_of_nonneg_right hs.up hql
  have u2 := Int.mul_le_mul_of_nonneg_right hs.down hql
  have G1 : e * G ≤ c * (q - l) := by
    refine Classical.byContradiction fun hc => ?_
    have h1 := Int.mul_le_mul_of_nonneg_right (show c * (q - l) + 1 ≤ e * G by omega) (show 0 ≤ b by omega)
    have h2 := Int.mul_le_mul_of_nonneg_left q1 (Int.le_of_lt he0)
    have e1 : e * G * b = e * (b * G) := by grind
    have e2 : e * (a * (q - l)) = a * e * (q - l) := by grind
    have e3 : c * b * (q - l) = c * (q - l) * b := by grind
    rw [Int.add_mul] at h1
    omega
  have G2 : -(c * (q - l)) < e * (G + 1) := by
    refine Classical.byContradiction fun hc => ?_
    have h1 := Int.mul_le_mul_of_nonneg_right (show e * (G + 1) ≤ -(c * (q - l)) by omega) (show 0 ≤ b by omega)
    have h2 := Int.mul_le_mul_of_nonneg_left (show a * (q - l) + 1 ≤ b * G + b by omega) (Int.le_of_lt he0)
    have e1 : e * (G + 1) * b = e * (b * G + b) := by grind
    have e2 : e * (a * (q - l) + 1) = a * e * (q - l) + e := by grind
    have e3 : c * b * (q - l) = c * (q - l) * b := by grind
    have e4 : -a * e * (q - l) = -(a * e * (q - l)) := by grind
    rw [Int.neg_mul] at h1
    omega
  -- all by n
  have hne := Int.mul_pos hn he0
  have hc0 := hs.c0
  have hc1 := hs.c1
  have hee := hs.e0
  have r1 := Int.mul_le_mul_of_nonneg_left (show n * q - S ≤ n * (q - first) by have : n * (q - first) = n * q - n * first := by grind
                                                                                omega) hc0
  have r2 := Int.mul_le_mul_of_nonneg_left (show n * (q - l) ≤ n * q - S + n by have : n * (q - l) = n * q - n * l := by grind
                                                                                omega) hc0
  have r3 : n * (c * (q - first)) < n * (e * F + e) := Int.mul_lt_mul_of_pos_left (by omega) hn
  have G1n := Int.mul_le_mul_of_nonneg_left G1 (Int.le_of_lt hn)
  have G2n := Int.mul_le_mul_of_nonneg_left (show -(c * (q - l)) + 1 ≤ e * (G + 1) by omega) (Int.le_of_lt hn)
  have c20 := Int.mul_le_mul_of_nonneg_right (show c ≤ e - 1 by omega) (Int.le_of_lt hn)
  have T1 := Int.mul_le_mul_of_nonneg_left (show n * m ≤ T by omega) (Int.le_of_lt he0)
  have T2 := Int.mul_le_mul_of_nonneg_left (show T + 1 ≤ n * m + n by omega) (Int.le_of_lt he0)
  have key : ∀ z : Int, n * e * z < 0 → z < 0 := fun z hz => by
    refine Classical.byContradiction fun hc => ?_
    have := Int.mul_nonneg (Int.mul_nonneg (Int.le_of_lt hn) (Int.le_of_lt he0)) (show 0 ≤ z by omega)
    omega
  constructor
  · have := key (-(off + 2 * F + 5) - (m + G - O)) (by
      have x1 : n * e * (-(off + 2 * F + 5) - (m + G - O)) = -(n * (e * off)) - 2 * (n * (e * F)) - 5 * (n * e) - e * (n * m) - n * (e * G) + e * (n * O) := by grind
      have x2 : n * (e * (G + 1)) = n * (e * G) + n * e := by grind
      have x3 : n * (-(c * (q - l)) + 1) = -(c * (n * (q - l))) + n := by grind
      have x4 : e * (n * O - T) = e * (n * O) - e * T := by grind
      have x5 : c * (n * q - S + n) = c * (n * q - S) + c * n := by grind
      have x6 : n * (e * F + e) = n * (e * F) + n * e := by grind
      have x7 : c * (n * (q - first)) = n * (c * (q - first)) := by grind
      have x8 : e * (T + 1) = e * T + e := by grind
      have x9 : e * (n * m + n) = e * (n * m) + n * e := by grind
      have x10 : (e - 1) * n = n * e - n := by grind
      omega)
    omega
  · have := key (m + G - O - (off + 2 * F + 5)) (by
      have x1 : n * e * (m + G - O - (off + 2 * F + 5)) = e * (n * m) + n * (e * G) - e * (n * O) - n * (e * off) - 2 * (n * (e * F)) - 5 * (n * e) := by grind
      have x3 : n * (c * (q - l)) = c * (n * (q - l)) := by grind
      have x4 : e * (T - n * O) = e * T - e * (n * O) := by grind
      have x5 : c * (n * q - S + n) = c * (n * q - S) + c * n := by grind
      have x6 : n * (e * F + e) = n * (e * F) + n * e := by grind
      have x7 : c * (n * (q - first)) = n * (c * (q - first)) := by grind
      have x10 : (e - 1) * n = n * e - n := by grind
      omega)
    omega
end Go.Proofs.YtgmeakcfiaopcaaGreat
