/- Texts of this seat, one behind the other. -/
import Derived.Test.YtgmeakcfiaopcaaGreatBunA
import Derived.Test.YtgmeakcfiaopcaaGreatProg
import Derived.Outline
import Derived.PlainAid
import Derived.OwnWalk
import Derived.Deep.QuietTactic
import Derived.BigQuiet
import Derived.Test.YtgmeakcfiaopcaaGreatBunT
import Derived.Test.YtgmeakcfiaopcaaGreatBunU
import Derived.LoopTactic
import Derived.IntWalk
import Derived.WalkKit
import Derived.Laws.Bits64b
import Derived.Lib.BitFns
import Derived.Lib.ItoaNum
import Derived.Laws.MathBits
import Derived.Lib.Walk
/- Package fix, for the seats of later layers: what Add, Sub, Sat, Floor and Clamp answer, for all numbers of 64 bits. -/
namespace Go.Proofs.YtgmeakcfiaopcaaGreat
open Go.RowKit

def clampV (x l h : Int) : Int := if x < l ∨ h < l then l else if h < x then h else x
theorem clamp_any (x l h : Int) (w : World) :
    Calls Tryz.prog 102 #[.int .i64 x, .int .i64 l, .int .i64 h] w fun e w' => e = .returned (.int .i64 (clampV x l h)) ∧ w = w' := by
  by_cases c1 : x < l
  · go_enter Tryz.func102, Tryz.ntmps102
    go_wp2
    go_ret
    exact ⟨ret_int (by unfold clampV; rw [if_pos (Or.inl c1)]), rfl⟩
  · by_cases c2 : h < l
    · go_enter Tryz.func102, Tryz.ntmps102
      go_wp2
      go_ret
      exact ⟨ret_int (by unfold clampV; rw [if_pos (Or.inr c2)]), rfl⟩
    · by_cases c3 : h < x
      · go_enter Tryz.func102, Tryz.ntmps102
        go_wp2
        go_ret
        exact ⟨ret_int (by unfold clampV; rw [if_neg (by omega)]; first | rw [if_pos (by omega)] | rw [if_neg (by omega)]), rfl⟩
      · go_enter Tryz.func102, Tryz.ntmps102
        go_wp2
        go_ret
        exact ⟨ret_int (by unfold clampV; rw [if_neg (by omega)]; first | rw [if_pos (by omega)] | rw [if_neg (by omega)]), rfl⟩
theorem floor_no (a b : Int) (w : World) (h : b < 1) :
    Calls Tryz.prog 93 #[.int .i64 a, .int .i64 b] w fun e w' => e = .returned (.tuple #[.int .i64 0, .int .i64 0, .bool false]) ∧ w = w' := by
  go_enter Tryz.func93, Tryz.ntmps93
  go_wp2
  go_ret3
  exact ⟨rfl, rfl⟩
theorem ret_iib {k l : IntKind} {a b c d : Int} {o : Bool} (h : a = b) (g : c = d) : Ending.returned (.tuple #[.int k a, .int l c, .bool o]) = .returned (.tuple #[.int k b, .int l d, .bool o]) := by rw [h, g]
theorem tdm_neg (a b : Int) (h : 1 ≤ b) (c : a.tmod b < 0) : a.tdiv b - 1 = a / b ∧ a.tmod b + b = a % b := by
  have e1 := Int.tdiv_eq_ediv (a := a) (b := b)
  have e2 := Int.tmod_eq_emod (a := a) (b := b)
  have hs : b.sign = 1 := Int.sign_eq_one_of_pos (by omega)
  have hm := Int.emod_nonneg a (show b ≠ 0 by omega)
  rw [hs] at e1
  split at e1 <;> split at e2 <;> first | contradiction | omega
theorem tdm_pos (a b : Int) (h : 1 ≤ b) (c : ¬ a.tmod b < 0) : a.tdiv b = a / b ∧ a.tmod b = a % b := by
  have e1 := Int.tdiv_eq_ediv (a := a) (b := b)
  have e2 := Int.tmod_eq_emod (a := a) (b := b)
  have hs : b.sign = 1 := Int.sign_eq_one_of_pos (by omega)
  have hm := Int.emod_lt_of_pos a (show 0 < b by omega)
  rw [hs] at e1
  split at e1 <;> split at e2 <;> first | contradiction | omega
theorem ediv_bd (a b : Int) (h : 1 ≤ b) : (0 ≤ a → 0 ≤ a / b ∧ a / b ≤ a) ∧ (a < 0 → a ≤ a / b ∧ a / b < 0) := by
  constructor
  · intro c; exact ⟨Int.ediv_nonneg c (by omega), Int.ediv_le_self _ c⟩
  · intro c
    refine ⟨?_, Int.ediv_neg_of_neg_of_pos c (by omega)⟩
    rw [Int.le_ediv_iff_mul_le (by omega)]
    have := Int.mul_le_mul_of_nonpos_left (a := a) (by omega) h
    simpa using this
theorem floor_yes (a b : Int) (w : World) (ha : Fits a) (h1 : 1 ≤ b) (h2 : b ≤ 9223372036854775807) :
    Calls Tryz.prog 93 #[.int .i64 a, .int .i64 b] w fun e w' => e = .returned (.tuple #[.int .i64 (a / b), .int .i64 (a % b), .bool true]) ∧ ∃ n, w' = w.drewN n := by
  obtain ⟨ha1, ha2⟩ := ha
  have g0 := ediv_bd a b h1
  have m0 := Int.emod_nonneg a (show b ≠ 0 by omega)
  have m1 := Int.emod_lt_of_pos a (show 0 < b by omega)
  by_cases c : a.tmod b < 0
  · have H : Hid (a.tdiv b - 1 = a / b ∧ a.tmod b + b = a % b) := Lib.hid (tdm_neg a b h1 c)
    have g1 : -9223372036854775808 ≤ a.tdiv b - 1 ∧ a.tdiv b - 1 ≤ 9223372036854775807 := by have := H.out; omega
    have g2 : -9223372036854775808 ≤ a.tmod b + b ∧ a.tmod b + b ≤ 9223372036854775807 := by have := H.out; omega
    obtain ⟨g3, g4⟩ := g1
    obtain ⟨g5, g6⟩ := g2
    clear g0 m0 m1
    go_enter Tryz.func93, Tryz.ntmps93
    go_wp2
    go_quiet (fail)
    go_wp2
    go_ret3
    exact ⟨ret_iib H.out.1 H.out.2, ⟨_, rfl⟩⟩
  · have H : Hid (a.tdiv b = a / b ∧ a.tmod b = a % b) := Lib.hid (tdm_pos a b h1 c)
    clear g0 m0 m1
    go_enter Tryz.func93, Tryz.ntmps93
    go_wp2
    go_quiet (fail)
    go_wp2
    go_ret3
    exact ⟨ret_iib H.out.1 H.out.2, ⟨_, rfl⟩⟩
end Go.Proofs.YtgmeakcfiaopcaaGreat

/- The document's Floor, for seats over LawKit. -/
namespace Go.Proofs.YtgmeakcfiaopcaaGreat
open Go.RowKit
set_option linter.unusedVariables false
set_option linter.unusedSimpArgs false

theorem rfloor_yes (a b : Int) (w : World) (ha : Fits a) (h1 : 1 ≤ b) (h2 : b ≤ 9223372036854775807) :
    Calls Tryz.prog 78 #[.int .i64 a, .int .i64 b] w fun e w' => e = .returned (.tuple #[.int .i64 (a / b), .int .i64 (a % b)]) ∧ ∃ n, w' = w.drewN n := by
  obtain ⟨ha1, ha2⟩ := ha
  have g0 := ediv_bd a b h1
  have m0 := Int.emod_nonneg a (show b ≠ 0 by omega)
  have m1 := Int.emod_lt_of_pos a (show 0 < b by omega)
  by_cases c0 : 0 ≤ a
  · have d0 : decide (a < 0) = false := decide_eq_false (by omega)
    by_cases c1 : a % b = 0
    · have d1 : (a % b == 0) = true := by simpa using c1
      have H := Lib.hid c1
      clear c1 g0 m0 m1
      go_enter Tryz.func78, Tryz.ntmps78
      go_wp2
      go_quiet (fail)
      go_wp2
      go_ret2
      exact ⟨ret_ii rfl rfl, ⟨_, rfl⟩⟩
    · have d1 : (a % b == 0) = false := by simpa using c1
      have d2 : (a % b != 0) = true := by simpa using c1
      clear c1 g0 m0 m1
      go_enter Tryz.func78, Tryz.ntmps78
      go_wp2
      go_quiet (fail)
      go_wp2
      go_ret2
      exact ⟨ret_ii rfl rfl, ⟨_, rfl⟩⟩
  · have hnp : a.tmod b ≤ 0 := by
      have := Int.tmod_nonneg b (a := -a) (by omega)
      rw [Int.neg_tmod] at this; omega
    by_cases c1 : a.tmod b = 0
    · have H : Hid (a.tdiv b = a / b ∧ a.tmod b = a % b) := Lib.hid (tdm_pos a b h1 (by omega))
      have d1 : (a.tmod b == 0) = true := by simpa using c1
      have d2 : (a.tmod b != 0) = false := by simpa using c1
      clear c1 g0 m0 m1 hnp
      go_enter Tryz.func78, Tryz.ntmps78
      go_wp2
      go_quiet (fail)
      go_wp2
      go_ret2
      exact ⟨ret_ii H.out.1 H.out.2, ⟨_, rfl⟩⟩
    · have H : Hid (a.tdiv b - 1 = a / b ∧ a.tmod b + b = a % b) := Lib.hid (tdm_neg a b h1 (by omega))
      have g1 : -9223372036854775808 ≤ a.tdiv b - 1 ∧ a.tdiv b - 1 ≤ 9223372036854775807 := by have := H.out; omega
      have g2 : -9223372036854775808 ≤ a.tmod b + b ∧ a.tmod b + b ≤ 9223372036854775807 := by have := H.out; omega
      obtain ⟨g3, g4⟩ := g1
      obtain ⟨g5, g6⟩ := g2
      have d1 : (a.tmod b == 0) = false := by simpa using c1
      have d2 : (a.tmod b != 0) = true := by simpa using c1
      clear c1 g0 m0 m1 hnp
      go_enter Tryz.func78, Tryz.ntmps78
      go_wp2
      go_quiet (fail)
      go_wp2
      go_ret2
      exact ⟨ret_ii H.out.1 H.out.2, ⟨_, rfl⟩⟩
end Go.Proofs.YtgmeakcfiaopcaaGreat

/- Least squares by whole numbers: plain mathematics of the numerator and the denominator. Nothing here speaks of one program. -/
namespace Go.Proofs.YtgmeakcfiaopcaaGreat

/-- The sum of what each point gives. -/
def sumP (f : Int × Int → Int) : List (Int × Int) → Int
  | [] => 0
  | p :: L => f p + sumP f L
def pX (p : Int × Int) : Int := p.1
def pY (p : Int × Int) : Int := p.2
def pXY (p : Int × Int) : Int := p.1 * p.2
def pXX (p : Int × Int) : Int := p.1 * p.1
def numV (L : List (Int × Int)) : Int := (L.length : Int) * sumP pXY L - sumP pX L * sumP pY L
def denV (L : List (Int × Int)) : Int := (L.length : Int) * sumP pXX L - sumP pX L * sumP pX L
theorem sumP_append (f : Int × Int → Int) : ∀ L M : List (Int × Int), sumP f (L ++ M) = sumP f L + sumP f M
  | [], M => by simp [sumP]
  | p :: L, M => by
    show f p + sumP f (L ++ M) = f p + sumP f L + sumP f M
    rw [sumP_append f L M]
    omega
theorem sumP_snoc (f : Int × Int → Int) (L : List (Int × Int)) (p : Int × Int) : sumP f (L ++ [p]) = sumP f L + f p := by
  rw [sumP_append]
  show _ + (f p + 0) = _
  omega
theorem sumP_nonneg (f : Int × Int → Int) : ∀ L : List (Int × Int), (∀ p ∈ L, 0 ≤ f p) → 0 ≤ sumP f L
  | [], _ => Int.le_refl _
  | p :: L, h => by
    have h1 := h p (List.mem_cons_self ..)
    have h2 := sumP_nonneg f L (fun q hq => h q (List.mem_cons_of_mem _ hq))
    show 0 ≤ f p + sumP f L
    omega
theorem sumP_pos (f : Int × Int → Int) (L : List (Int × Int)) (h : ∀ p ∈ L, 0 < f p) (hL : L ≠ []) : 0 < sumP f L := by
  cases L with
  | nil => exact absurd rfl hL
  | cons p L =>
    have h1 := h p (List.mem_cons_self ..)
    have h2 := sumP_nonneg f L (fun q hq => Int.le_of_lt (h q (List.mem_cons_of_mem _ hq)))
    show 0 < f p + sumP f L
    omega
theorem sumP_nonpos (f : Int × Int → Int) : ∀ L : List (Int × Int), (∀ p ∈ L, f p ≤ 0) → sumP f L ≤ 0
  | [], _ => Int.le_refl _
  | p :: L, h => by
    have h1 := h p (List.mem_cons_self ..)
    have h2 := sumP_nonpos f L (fun q hq => h q (List.mem_cons_of_mem _ hq))
    show f p + sumP f L ≤ 0
    omega
/-- Sums of bounded numbers are bounded. -/
theorem sumP_bd (f : Int × Int → Int) (lo hi : Int) : ∀ L : List (Int × Int), (∀ p ∈ L, lo ≤ f p ∧ f p ≤ hi) → (L.length : Int) * lo ≤ sumP f L ∧ sumP f L ≤ (L.length : Int) * hi
  | [], _ => by simp [sumP]
  | p :: L, h => by
    have h1 := h p (List.mem_cons_self ..)
    have h2 := sumP_bd f lo hi L (fun q hq => h q (List.mem_cons_of_mem _ hq))
    have e1 : ((p :: L).length : Int) * lo = (L.length : Int) * lo + lo := by rw [List.length_cons]; grind
    have e2 : ((p :: L).length : Int) * hi = (L.length : Int) * hi + hi := by rw [List.length_cons]; grind
    rw [e1, e2]
    show _ ≤ f p + sumP f L ∧ f p + sumP f L ≤ _
    omega
/-- What one point more adds to the numerator: the products of how far it is from each of the others. -/
def cross (p : Int × Int) (q : Int × Int) : Int := (p.1 - q.1) * (p.2 - q.2)
def crossX (p : Int × Int) (q : Int × Int) : Int := (p.1 - q.1) * (p.1 - q.1)
theorem sum_cross (p : Int × Int) : ∀ L : List (Int × Int), sumP (cross p) L = (L.length : Int) * (p.1 * p.2) - p.1 * sumP pY L - p.2 * sumP pX L + sumP pXY L
  | [] => by simp [sumP]
  | q :: L => by
    have := sum_cross p L
    show cross p q + sumP (cross p) L = ((q :: L).length : Int) * (p.1 * p.2) - p.1 * (pY q + sumP pY L) - p.2 * (pX q + sumP pX L) + (pXY q + sumP pXY L)
    rw [this, List.length_cons]
    unfold cross pY pX pXY
    grind
theorem sum_crossX (p : Int × Int) : ∀ L : List (Int × Int), sumP (crossX p) L = (L.length : Int) * (p.1 * p.1) - 2 * (p.1 * sumP pX L) + sumP pXX L
  | [] => by simp [sumP]
  | q :: L => by
    have := sum_crossX p L
    show crossX p q + sumP (crossX p) L = ((q :: L).length : Int) * (p.1 * p.1) - 2 * (p.1 * (pX q + sumP pX L)) + (pXX q + sumP pXX L)
    rw [this, List.length_cons]
    unfold crossX pX pXX
    grind
theorem num_snoc (L : List (Int × Int)) (p : Int × Int) : numV (L ++ [p]) = numV L + sumP (cross p) L := by
  rw [sum_cross]
  unfold numV
  rw [sumP_snoc, sumP_snoc, sumP_snoc, List.length_append, List.length_singleton]
  unfold pX pY pXY
  grind
theorem den_snoc (L : List (Int × Int)) (p : Int × Int) : denV (L ++ [p]) = denV L + sumP (crossX p) L := by
  rw [sum_crossX]
  unfold denV
  rw [sumP_snoc, sumP_snoc, List.length_append, List.length_singleton]
  unfold pX pXX
  grind
theorem num_one (p : Int × Int) : numV [p] = 0 := by
  unfold numV
  simp [sumP, pXY, pX, pY]
theorem den_one (p : Int × Int) : denV [p] = 0 := by
  unfold denV
  simp [sumP, pXX, pX]
theorem mul_nonpos_of {a b : Int} (ha : 0 ≤ a) (hb : b ≤ 0) : a * b ≤ 0 := by
  have := Int.mul_le_mul_of_nonneg_left hb ha
  simpa using this
/-- Of points that never fall the numerator is no less than 0, and where they never rise no greater; the denominator is never below 0, and above 0, where the first coordinates rise. -/
theorem num_up : ∀ (n : Nat) (L : List (Int × Int)), L.length = n → L.Pairwise (fun p q => p.1 ≤ q.1 ∧ p.2 ≤ q.2) → 0 ≤ numV L
  | 0, L, hn, _ => by
    obtain rfl := List.eq_nil_of_length_eq_zero hn
    decide
  | n + 1, L, hn, h => by
    rcases List.eq_nil_or_concat L with rfl | ⟨M, p, rfl⟩
    · cases hn
    · rw [List.concat_eq_append] at hn h ⊢
      have hp := List.pairwise_append.1 h
      have h1 := num_up n M (by rw [List.length_append] at hn; simpa using hn) hp.1
      have h2 := sumP_nonneg (cross p) M (fun q hq => by
        have := hp.2.2 q hq p (by simp)
        exact Int.mul_nonneg (by omega) (by omega))
      rw [num_snoc]
      omega
theorem num_down : ∀ (n : Nat) (L : List (Int × Int)), L.length = n → L.Pairwise (fun p q => p.1 ≤ q.1 ∧ q.2 ≤ p.2) → numV L ≤ 0
  | 0, L, hn, _ => by
    obtain rfl := List.eq_nil_of_length_eq_zero hn
    decide
  | n + 1, L, hn, h => by
    rcases List.eq_nil_or_concat L with rfl | ⟨M, p, rfl⟩
    · cases hn
    · rw [List.concat_eq_append] at hn h ⊢
      have hp := List.pairwise_append.1 h
      have h1 := num_down n M (by rw [List.length_append] at hn; simpa using hn) hp.1
      have h2 := sumP_nonpos (cross p) M (fun q hq => by
        have := hp.2.2 q hq p (by simp)
        exact mul_nonpos_of (by omega) (by omega))
      rw [num_snoc]
      omega
theorem sq_nonneg (a : Int) : 0 ≤ a * a := by
  rcases Int.le_total 0 a with h | h
  · exact Int.mul_nonneg h h
  · have := Int.mul_nonneg (show 0 ≤ -a by omega) (show 0 ≤ -a by omega)
    rw [Int.neg_mul_neg] at this
    exact this
theorem den_nonneg : ∀ (n : Nat) (L : List (Int × Int)), L.length = n → 0 ≤ denV L
  | 0, L, hn => by
    obtain rfl := List.eq_nil_of_length_eq_zero hn
    decide
  | n + 1, L, hn => by
    rcases List.eq_nil_or_concat L with rfl | ⟨M, p, rfl⟩
    · cases hn
    · rw [List.concat_eq_append] at hn ⊢
      have h1 := den_nonneg n M (by rw [List.length_append] at hn; simpa using hn)
      have h2 := sumP_nonneg (crossX p) M (fun q _ => sq_nonneg _)
      rw [den_snoc]
      omega
theorem den_pos {L : List (Int × Int)} (h2 : 2 ≤ L.length) (h : L.Pairwise (fun p q => p.1 < q.1)) : 0 < denV L := by
  rcases List.eq_nil_or_concat L with rfl | ⟨M, p, rfl⟩
  · simp at h2
  · rw [List.concat_eq_append] at h2 h ⊢
    have hp := List.pairwise_append.1 h
    have hM : M ≠ [] := by
      rintro rfl
      simp at h2
    have h1 := den_nonneg _ M rfl
    have h3 := sumP_pos (crossX p) M (fun q hq => by
      have := hp.2.2 q hq p (by simp)
      exact Int.mul_pos (by omega) (by omega)) hM
    rw [den_snoc]
    omega
/-- Points on a line: so much more for each so much. -/
def onLine (gain of : Int) (t : Int) : Int × Int := (t * of, t * gain)
theorem sumP_line (gain of : Int) : ∀ T : List Int, sumP pX (T.map (onLine gain of)) = of * sumP pX (T.map (fun t => (t, t))) ∧ sumP pY (T.map (onLine gain of)) = gain * sumP pX (T.map (fun t => (t, t))) ∧
    sumP pXY (T.map (onLine gain of)) = of * gain * sumP pXX (T.map (fun t => (t, t))) ∧ sumP pXX (T.map (onLine gain of)) = of * of * sumP pXX (T.map (fun t => (t, t)))
  | [] => by simp [sumP]
  | t :: T => by
    obtain ⟨h1, h2, h3, h4⟩ := sumP_line gain of T
    simp only [List.map_cons, sumP, h1, h2, h3, h4]
    unfold pX pY pXY pXX onLine
    refine ⟨by grind, by grind, by grind, by grind⟩
theorem line_num (gain of : Int) (T : List Int) : numV (T.map (onLine gain of)) = of * gain * denV (T.map (fun t => (t, t))) := by
  obtain ⟨h1, h2, h3, h4⟩ := sumP_line gain of T
  unfold numV denV
  rw [h1, h2, h3, List.length_map, List.length_map]
  grind
theorem line_den (gain of : Int) (T : List Int) : denV (T.map (onLine gain of)) = of * of * denV (T.map (fun t => (t, t))) := by
  obtain ⟨h1, h2, h3, h4⟩ := sumP_line gain of T
  unfold denV
  rw [h1, h4, List.length_map, List.length_map]
  grind

/-- No more than the greatest fraction that can be, c / d, and no less than its opposite. -/
def clampS (a b c d : Int) : Int × Int := if c * b < a * d then (c, d) else if c * b < -a * d then (-c, d) else (a, b)
theorem clamp_bound {a b c d : Int} (hb : 0 < b) (hc : 0 ≤ c) (hd : 0 < d) : (clampS a b c d).2 > 0 ∧ (clampS a b c d).1 * d ≤ c * (clampS a b c d).2 ∧ -(clampS a b c d).1 * d ≤ c * (clampS a b c d).2 := by
  have hcd : 0 ≤ c * d := Int.mul_nonneg hc (Int.le_of_lt hd)
  unfold clampS
  split
  · refine ⟨hd, Int.le_refl _, ?_⟩
    show -c * d ≤ c * d
    rw [Int.neg_mul]
    omega
  · split
    · refine ⟨hd, ?_, ?_⟩
      · show -c * d ≤ c * d
        rw [Int.neg_mul]
        omega
      · show - -c * d ≤ c * d
        rw [Int.neg_neg]
        exact Int.le_refl _
    · refine ⟨hb, ?_, ?_⟩
      · show a * d ≤ c * b
        omega
      · show -a * d ≤ c * b
        omega
/-- Of so many points so near the sums stay within 2^50. -/
theorem prod_bd {x y m k : Int} (hx : -m ≤ x ∧ x ≤ m) (hy : -k ≤ y ∧ y ≤ k) : -(m * k) ≤ x * y ∧ x * y ≤ m * k := by
  have h1 := Int.mul_nonneg (show 0 ≤ m - x by omega) (show 0 ≤ k - y by omega)
  have h2 := Int.mul_nonneg (show 0 ≤ m + x by omega) (show 0 ≤ k + y by omega)
  have h3 := Int.mul_nonneg (show 0 ≤ m - x by omega) (show 0 ≤ k + y by omega)
  have h4 := Int.mul_nonneg (show 0 ≤ m + x by omega) (show 0 ≤ k - y by omega)
  refine ⟨by grind, by grind⟩

/-- Is a / b greater than c / d? Reckoned bit by bit of d: behind the bits from the tenth down to bit n + 1, q and r are a times those, by b. -/
def OvI (a b d n q r : Int) : Prop := -1 ≤ n ∧ n ≤ 9 ∧ 0 ≤ q ∧ 0 ≤ r ∧ r < b ∧ q * b + r = a * (d / 2 ^ (n + 1).toNat)
theorem ov_start {a b d : Int} (hb : 0 < b) (h0 : 0 ≤ d) (h1 : d < 1024) : OvI a b d 9 0 0 := by
  refine ⟨by decide, Int.le_refl _, Int.le_refl _, Int.le_refl _, hb, ?_⟩
  have e : d / 2 ^ ((9 : Int) + 1).toNat = 0 := by
    show d / 1024 = 0
    omega
  rw [e]
  simp
theorem ov_half (d : Int) (j : Nat) : d / 2 ^ j = 2 * (d / 2 ^ ((j : Int) + 1).toNat) + d / 2 ^ j % 2 := by
  have e : d / 2 ^ ((j : Int) + 1).toNat = d / 2 ^ j / 2 := by
    rw [show ((j : Int) + 1).toNat = j + 1 by omega, Int.pow_succ, Int.ediv_ediv_of_nonneg (Int.le_of_lt (Int.pow_pos (by decide)))]
  rw [e]
  omega
theorem ov_dbl {q r b : Int} (h0 : 0 ≤ r) (h1 : r < b) : (b ≤ 2 * r → (2 * q + 1) * b + (2 * r - b) = 2 * (q * b + r) ∧ 0 ≤ 2 * r - b ∧ 2 * r - b < b) ∧ (¬ b ≤ 2 * r → 2 * q * b + 2 * r = 2 * (q * b + r) ∧ 0 ≤ 2 * r ∧ 2 * r < b) :=
  ⟨fun h => ⟨by grind, by omega, by omega⟩, fun h => ⟨by grind, by omega, by omega⟩⟩
theorem ov_add {q r b a : Int} (hb : 0 < b) (h0 : 0 ≤ r) (h1 : r < b) :
    (b ≤ r + a % b → (q + a / b + 1) * b + (r + a % b - b) = q * b + r + a ∧ 0 ≤ r + a % b - b ∧ r + a % b - b < b) ∧ (¬ b ≤ r + a % b → (q + a / b) * b + (r + a % b) = q * b + r + a ∧ 0 ≤ r + a % b ∧ r + a % b < b) := by
  have e := Int.emod_add_mul_ediv a b
  have m0 := Int.emod_nonneg a (show b ≠ 0 by omega)
  have m1 := Int.emod_lt_of_pos a hb
  exact ⟨fun h => ⟨by grind, by omega, by omega⟩, fun h => ⟨by grind, by omega, by omega⟩⟩
/-- One bit on: it is 0, or 1. -/
theorem ov_zero {a b d q r q2 r2 : Int} {j : Nat} (h : OvI a b d j q r) (hq : 0 ≤ q2) (h2 : q2 * b + r2 = 2 * (q * b + r)) (h0 : 0 ≤ r2) (h1 : r2 < b) (hbit : d / 2 ^ j % 2 = 0) : OvI a b d ((j : Int) - 1) q2 r2 := by
  obtain ⟨_, k2, _, _, _, k6⟩ := h
  have hh := ov_half d j
  refine ⟨by omega, by omega, hq, h0, h1, ?_⟩
  rw [show ((j : Int) - 1 + 1).toNat = j by omega, h2, k6, hh, hbit]
  grind
theorem ov_one {a b d q r q2 r2 q3 r3 : Int} {j : Nat} (h : OvI a b d j q r) (hq : 0 ≤ q3) (h2 : q2 * b + r2 = 2 * (q * b + r)) (h3 : q3 * b + r3 = q2 * b + r2 + a) (h0 : 0 ≤ r3) (h1 : r3 < b) (hbit : d / 2 ^ j % 2 = 1) : OvI a b d ((j : Int) - 1) q3 r3 := by
  obtain ⟨_, k2, _, _, _, k6⟩ := h
  have hh := ov_half d j
  refine ⟨by omega, by omega, hq, h0, h1, ?_⟩
  rw [show ((j : Int) - 1 + 1).toNat = j by omega, h3, h2, k6, hh, hbit]
  grind
theorem ov_end {a b c d q r : Int} (h : OvI a b d (-1) q r) : (c < q ∨ c = q ∧ 0 < r) ↔ c * b < a * d := by
  obtain ⟨_, _, h0, h1, h2, h3⟩ := h
  have e : d / 2 ^ ((-1 : Int) + 1).toNat = d := Int.ediv_one d
  rw [e] at h3
  have hb : 0 < b := by omega
  constructor
  · rintro (h | ⟨rfl, h⟩)
    · have := Int.mul_le_mul_of_nonneg_right (show c + 1 ≤ q by omega) (Int.le_of_lt hb)
      have e2 : (c + 1) * b = c * b + b := by grind
      omega
    · omega
  · intro h
    by_cases g : c < q
    · exact .inl g
    · by_cases g2 : c = q
      · subst g2
        exact .inr ⟨rfl, by omega⟩
      · exfalso
        have := Int.mul_le_mul_of_nonneg_right (show q + 1 ≤ c by omega) (Int.le_of_lt hb)
        have e2 : (q + 1) * b = q * b + b := by grind
        omega
/-- How great q may be, all the way. -/
theorem ov_bound {a b d n q r : Int} (h : OvI a b d n q r) (ha : 0 ≤ a) (h0 : 0 ≤ d) (h1 : d < 1024) : q ≤ a * 1023 := by
  obtain ⟨_, _, k0, k1, k2, k3⟩ := h
  have hd : 0 ≤ d / 2 ^ (n + 1).toNat ∧ d / 2 ^ (n + 1).toNat ≤ 1023 := by
    refine ⟨Int.ediv_nonneg h0 (Int.le_of_lt (Int.pow_pos (by decide))), ?_⟩
    have := Int.ediv_le_self (2 ^ (n + 1).toNat) h0
    omega
  have e1 := Int.mul_le_mul_of_nonneg_left hd.2 ha
  have e2 := Int.mul_le_mul_of_nonneg_left (show 1 ≤ b by omega) k0
  omega
end Go.Proofs.YtgmeakcfiaopcaaGreat

/- Package slope: apart, Most, within; the document's Most. -/
namespace Go.Proofs.YtgmeakcfiaopcaaGreat
open Go.RowKit
set_option linter.unusedVariables false
set_option linter.unusedSimpArgs false

theorem sl_size : (Tryz.prog.info? 140).map (·.size) = some 2 := by kernel_rfl
/-- The end of a call that answers a fraction, which lies in a variable of its own. -/
theorem end_sl {fn : Func} {p : Tmp} {R : Ending → World → Prop} {a : Act} {w : World} {g : Nat} {x y : Value} (h : fn.results = #[.cell p 140]) (hp : a.tmps.getD p undef = .pointer (some ⟨g, 0, none⟩))
    (hg : Holds w g 140 #[x, y]) (hd : a.defers = []) (hR : R (.returned (.agg #[x, y])) w) : bodyPost Tryz.prog fn R .ret a w :=
  bodyPost_ret (results_cell_row h _ _ g 140 _ (0, 0) _ hp hg Tryz.underlying140 rfl sl_size) hd hR
theorem apart_any (a1 a2 a3 b1 b2 b3 : Int) (w : World) (h1 : Fits (b1 - a1)) (h2 : Fits (b2 - a2)) :
    Calls Tryz.prog 101 #[.agg #[.int .i64 a1, .int .i64 a2, .int .i64 a3], .agg #[.int .i64 b1, .int .i64 b2, .int .i64 b3]] w fun e w' => e = .returned (.tuple #[.int .i64 (b1 - a1), .int .i64 (b2 - a2)]) ∧ Below w.heap.size w w' := by
  have k := (Holds.new w 49 #[.int .i64 a1, .int .i64 a2, .int .i64 a3])
  have HW := Lib.hid (below_alloc w (.cells #[.int .i64 a1, .int .i64 a2, .int .i64 a3] 49))
  have k' := (Holds.new (w.alloc (.cells #[.int .i64 a1, .int .i64 a2, .int .i64 a3] 49)) 49 #[.int .i64 b1, .int .i64 b2, .int .i64 b3])
  have hsz := size_alloc w (.cells #[.int .i64 a1, .int .i64 a2, .int .i64 a3] 49)
  have hk := k.below (below_alloc (w.alloc (.cells #[.int .i64 a1, .int .i64 a2, .int .i64 a3] 49)) (.cells #[.int .i64 b1, .int .i64 b2, .int .i64 b3] 49)) k.lt
  rw [hsz] at k'
  have c0 := hk.cell 0
  have c1 := hk.cell 1
  have d0 := k'.cell 0
  have d1 := k'.cell 1
  have e1 := IntWalk.i64_in (b1 - a1) (by unfold Fits at h1; omega)
  have e2 := IntWalk.i64_in (b2 - a2) (by unfold Fits at h2; omega)
  clear k k' hk hsz
  go_enter Tryz.func101, Tryz.ntmps101
  go_wp2
  go_quiet (fail)
  go_wp2
  go_ret2
  exact ⟨rfl, below_drewN (HW.out.alloc (by simp) _) _⟩

/-- What a drift counts. -/
def dV (d : Int) : Int := if d < 0 then 0 else if 10 < d then 10 else d
theorem dV_bd (d : Int) : 0 ≤ dV d ∧ dV d ≤ 10 := by
  unfold dV
  split
  · omega
  · split <;> omega
theorem clamp_d (d : Int) : clampV d 0 10 = dV d := by
  unfold clampV dV
  by_cases h : d < 0
  · rw [if_pos (.inl h), if_pos h]
  · rw [if_neg (by omega), if_neg h]
/-- A fraction, as a value. -/
def slV (p : Int × Int) : Value := .agg #[.int .i64 p.1, .int .i64 p.2]
theorem most_any (d : Int) (w : World) :
    Calls Tryz.prog 97 #[.int .i64 d] w fun e w' => e = .returned (.agg #[.int .i64 (2 * dV d), .int .i64 (1000 - dV d)]) ∧ Below w.heap.size w w' := by
  have hb := dV_bd d
  have hc := clamp_d d
  have e1 := IntWalk.i64_in (2 * dV d) (by omega)
  have e2 := IntWalk.i64_in (1000 - dV d) (by omega)
  have HB := Lib.hid (below_alloc w (.cells #[.int .i64 (2 * dV d), .int .i64 (1000 - dV d)] 140))
  go_enter Tryz.func97, Tryz.ntmps97
  go_wp2_with (go_at_call 102; refine (clamp_any d 0 10 _).mono ?_; rintro e w' ⟨rfl, rfl⟩; rw [hc])
  exact end_sl rfl rfl (Holds.new _ _ _) rfl ⟨rfl, HB.out⟩
theorem rmost_any (d : Int) (w : World) :
    Calls Tryz.prog 89 #[.int .i64 d] w fun e w' => e = .returned (.tuple #[.int .i64 (2 * dV d), .int .i64 (1000 - dV d)]) ∧ w' = w := by
  have hb := dV_bd d
  have e1 := IntWalk.i64_in (2 * dV d) (by omega)
  have e2 := IntWalk.i64_in (1000 - dV d) (by omega)
  have hd : min (max d 0) 10 = dV d := by unfold dV; (repeat' split) <;> omega
  go_enter Tryz.func89, Tryz.ntmps89
  go_wp2
  go_ret2
  exact ⟨rfl, rfl⟩
theorem within_any (a b c d : Int) (w : World) (h1 : Fits (a * d)) (h2 : Fits (c * b)) (h3 : Fits (-(c * b))) (h4 : Fits (-c)) :
    Calls Tryz.prog 96 #[.agg #[.int .i64 a, .int .i64 b], .agg #[.int .i64 c, .int .i64 d]] w fun e w' => e = .returned (slV (clampS a b c d)) ∧ Below w.heap.size w w' := by
  have k := (Holds.new w 140 #[.int .i64 a, .int .i64 b])
  have HW := Lib.hid (below_alloc w (.cells #[.int .i64 a, .int .i64 b] 140))
  have k' := (Holds.new (w.alloc (.cells #[.int .i64 a, .int .i64 b] 140)) 140 #[.int .i64 c, .int .i64 d])
  have hsz := size_alloc w (.cells #[.int .i64 a, .int .i64 b] 140)
  have hk := k.below (below_alloc (w.alloc (.cells #[.int .i64 a, .int .i64 b] 140)) (.cells #[.int .i64 c, .int .i64 d] 140)) k.lt
  rw [hsz] at k'
  have e1 := IntWalk.i64_in (a * d) (by unfold Fits at h1; omega)
  have e2 := IntWalk.i64_in (c * b) (by unfold Fits at h2; omega)
  have e3 := IntWalk.i64_in (-(c * b)) (by unfold Fits at h3; omega)
  have e4 := IntWalk.i64_in (-c) (by unfold Fits at h4; omega)
  have hv : clampS a b c d = if c * b < a * d then (c, d) else if c * b < -a * d then (-c, d) else (a, b) := rfl
  have HR := Lib.hid ((Holds.new ((w.alloc (.cells #[.int .i64 a, .int .i64 b] 140)).alloc (.cells #[.int .i64 c, .int .i64 d] 140)) 140 #[.int .i64 0, .int .i64 0]))
  have HL := Lib.hid ((HW.out.alloc (by simp) (.cells #[.int .i64 c, .int .i64 d] 140)).alloc (by rw [size_alloc, size_alloc]; omega) (.cells #[.int .i64 0, .int .i64 0] 140))
  have hsz2 := size_alloc (w.alloc (.cells #[.int .i64 a, .int .i64 b] 140)) (.cells #[.int .i64 c, .int .i64 d] 140)
  rw [hsz2, hsz] at HR
  clear hsz2
  have c0 := hk.cell 0
  have c1 := hk.cell 1
  have d0 := k'.cell 0
  have d1 := k'.cell 1
  obtain ⟨X, hX⟩ : ∃ X, a * d = X := ⟨_, rfl⟩
  obtain ⟨Y, hY⟩ : ∃ Y, c * b = Y := ⟨_, rfl⟩
  have hn : -a * d = -X := by rw [Int.neg_mul, hX]
  rw [hn] at hv
  rw [hX] at e1 hv
  rw [hY] at e2 e3 hv
  clear k k' hk hsz h1 h2 h3 h4 hn
  by_cases g1 : Y < X
  · rw [if_pos g1] at hv
    rw [hv]
    clear hv
    go_enter Tryz.func96, Tryz.ntmps96
    go_wp2
    go_quiet (fail)
    go_wp2
    exact end_sl rfl rfl (((HR.out.drewN _).put 0 _).put 1 _) rfl ⟨rfl, ((below_drewN HL.out _).setCell (by dsimp only; omega) _).setCell (by dsimp only; omega) _⟩
  · rw [if_neg g1] at hv
    have g1' : decide (Y < X) = false := decide_eq_false g1
    by_cases g2 : Y < -X
    · rw [if_pos g2] at hv
      rw [hv]
      have g3 : X < -Y := by omega
      clear hv
      go_enter Tryz.func96, Tryz.ntmps96
      go_wp2
      go_quiet (fail)
      go_wp2
      exact end_sl rfl rfl (((HR.out.drewN _).put 0 _).put 1 _) rfl ⟨rfl, ((below_drewN HL.out _).setCell (by dsimp only; omega) _).setCell (by dsimp only; omega) _⟩
    · rw [if_neg g2] at hv
      rw [hv]
      have g3 : ¬ X < -Y := by omega
      have g3' : decide (X < -Y) = false := decide_eq_false g3
      clear hv
      go_enter Tryz.func96, Tryz.ntmps96
      go_wp2
      go_quiet (fail)
      go_wp2
      exact end_sl rfl rfl (((HR.out.drewN _).put 0 _).put 1 _) rfl ⟨rfl, ((below_drewN HL.out _).setCell (by dsimp only; omega) _).setCell (by dsimp only; omega) _⟩
end Go.Proofs.YtgmeakcfiaopcaaGreat

/- Plain reckoning: products and quotients of numbers of 64 bits in parts of 32 bits. -/
namespace Go.Proofs.YtgmeakcfiaopcaaGreat
open Go.RowKit Go.IntWalk

theorem and32 (a : Int) (h : 0 ≤ a) (h' : a ≤ 18446744073709551615) : bits .and .u64 a 4294967295 = a % 4294967296 := by
  obtain ⟨n, rfl⟩ := Int.eq_ofNat_of_zero_le h
  have e := bits_and_u64_nat n 4294967295 (by omega) (by omega)
  rw [show n &&& 4294967295 = n % 4294967296 from Nat.and_two_pow_sub_one_eq_mod n 32] at e
  exact e
theorem mul32 (a c : Int) (h : 0 ≤ a) (h1 : a ≤ 4294967295) (g : 0 ≤ c) (g1 : c ≤ 4294967295) : 0 ≤ a * c ∧ a * c ≤ 18446744065119617025 :=
  ⟨Int.mul_nonneg h g, Int.le_trans (Int.mul_le_mul h1 g1 g (by omega)) (by decide)⟩
theorem prod_parts (x y : Int) : x * y = x / 4294967296 * (y / 4294967296) * 18446744073709551616 + (x / 4294967296 * (y % 4294967296) + x % 4294967296 * (y / 4294967296)) * 4294967296 + x % 4294967296 * (y % 4294967296) := by
  have e1 := Int.emod_add_mul_ediv x 4294967296
  have e2 := Int.emod_add_mul_ediv y 4294967296
  generalize x / 4294967296 = b at *
  generalize x % 4294967296 = a at *
  generalize y / 4294967296 = d at *
  generalize y % 4294967296 = c at *
  subst e1 e2
  grind
theorem mul_hi (x y : Int) (hx : 0 ≤ x) (hx' : x ≤ 18446744073709551615) (hy : 0 ≤ y) (hy' : y ≤ 18446744073709551615) :
    IntKind.u64.wrap (IntKind.u64.wrap (IntKind.u64.wrap (x / 4294967296 * (y / 4294967296)) +
      IntKind.u64.wrap (IntKind.u64.wrap (x / 4294967296 * bits BinOp.and IntKind.u64 y 4294967295) + IntKind.u64.wrap (bits BinOp.and IntKind.u64 x 4294967295 * bits BinOp.and IntKind.u64 y 4294967295) / 4294967296) / 4294967296) +
      IntKind.u64.wrap (bits BinOp.and IntKind.u64 (IntKind.u64.wrap (IntKind.u64.wrap (x / 4294967296 * bits BinOp.and IntKind.u64 y 4294967295) + IntKind.u64.wrap (bits BinOp.and IntKind.u64 x 4294967295 * bits BinOp.and IntKind.u64 y 4294967295) / 4294967296)) 4294967295 +
        IntKind.u64.wrap (bits BinOp.and IntKind.u64 x 4294967295 * (y / 4294967296))) / 4294967296) = x * y / 18446744073709551616 := by
  rw [and32 x hx hx', and32 y hy hy']
  have pp := prod_parts x y
  have a1 : 0 ≤ x % 4294967296 ∧ x % 4294967296 ≤ 4294967295 := by omega
  have b1 : 0 ≤ x / 4294967296 ∧ x / 4294967296 ≤ 4294967295 := by omega
  have c1 : 0 ≤ y % 4294967296 ∧ y % 4294967296 ≤ 4294967295 := by omega
  have d1 : 0 ≤ y / 4294967296 ∧ y / 4294967296 ≤ 4294967295 := by omega
  generalize x / 4294967296 = b at *
  generalize x % 4294967296 = a at *
  generalize y / 4294967296 = d at *
  generalize y % 4294967296 = c at *
  have ac := mul32 a c a1.1 a1.2 c1.1 c1.2
  have ad := mul32 a d a1.1 a1.2 d1.1 d1.2
  have bc := mul32 b c b1.1 b1.2 c1.1 c1.2
  have bd := mul32 b d b1.1 b1.2 d1.1 d1.2
  rw [pp]
  generalize a * c = ac' at *
  generalize a * d = ad' at *
  generalize b * c = bc' at *
  generalize b * d = bd' at *
  rw [u64_in ac' (by omega), u64_in ad' (by omega), u64_in bc' (by omega), u64_in bd' (by omega), u64_in (bc' + ac' / 4294967296) (by omega), and32 _ (by omega) (by omega)]
  rw [u64_in (bd' + (bc' + ac' / 4294967296) / 4294967296) (by omega), u64_in ((bc' + ac' / 4294967296) % 4294967296 + ad') (by omega)]
  rw [u64_in _ (by omega)]
  omega
theorem wrap_u64 (x : Int) : IntKind.u64.wrap x = x % 18446744073709551616 := by rw [IntKind.wrap_u64]
end Go.Proofs.YtgmeakcfiaopcaaGreat

/- Package fix, for the seats of later layers: Size; the library's Mul64 and Len64. -/
namespace Go.Proofs.YtgmeakcfiaopcaaGreat
open Go.RowKit

theorem u64_negneg (n : Int) (h : n < 0) (h1 : -9223372036854775808 ≤ n) : IntKind.u64.wrap (-IntKind.u64.wrap n) = -n := by
  simp [IntKind.wrap, IntKind.bits, IntKind.signed]; omega
def sizeV (n : Int) : Int := if n < 0 then -n else n
theorem size_any (n : Int) (w : World) (h : Fits n) :
    Calls Tryz.prog 108 #[.int .i64 n] w fun e w' => e = .returned (.int .u64 (sizeV n)) ∧ w = w' := by
  obtain ⟨h1, h2⟩ := h
  by_cases c : n < 0
  · go_enter Tryz.func108, Tryz.ntmps108
    go_wp2
    go_ret
    exact ⟨ret_int (by rw [u64_negneg n (by omega) (by omega)]; unfold sizeV; rw [if_pos c]), rfl⟩
  · go_enter Tryz.func108, Tryz.ntmps108
    go_wp2
    go_ret
    exact ⟨ret_int (by unfold sizeV; rw [if_neg (by omega)]), rfl⟩
theorem mul64_any (x y : Int) (w : World) (hx : 0 ≤ x) (hx' : x ≤ 18446744073709551615) (hy : 0 ≤ y) (hy' : y ≤ 18446744073709551615) :
    Calls Tryz.prog 107 #[.int .u64 x, .int .u64 y] w fun e w' => e = .returned (.tuple #[.int .u64 (x * y / 18446744073709551616), .int .u64 (x * y % 18446744073709551616)]) ∧ w = w' := by
  go_enter Tryz.func107, Tryz.ntmps107
  go_wp2
  go_ret2
  exact ⟨ret_ii (mul_hi x y hx hx' hy hy') (wrap_u64 (x * y)), rfl⟩

theorem len_size : ((Lib.len8tab.size : Nat) : Int) = 256 := by rw [Lib.len8tab_size]; rfl
theorem len_get (z : Int) (hh : z.toNat < Lib.len8tab.size) : ((Lib.len8tab[z.toNat]'hh).toNat : Int) = Lib.len8 z := by
  unfold Lib.len8
  rw [getElem?_pos Lib.len8tab z.toNat hh]
  rfl
theorem wrap_small (a b : Nat) (ha : a ≤ 56) (hb : b ≤ 8) : wrap64 ((a : Int) + wrap64 (b : Int)) = ((a + b : Nat) : Int) := by
  unfold wrap64
  omega
theorem len_sum (x z : Int) (k m : Nat) (hx : 1 ≤ x) (h1 : x ≤ 18446744073709551615) (hm : 2 ^ k = m) (hz : z.toNat = x.toNat / m) (h : m ≤ x.toNat) : k + Lib.bitLen z.toNat = Lib.bitLen x.toNat := by
  subst hm
  rw [hz]
  exact (Lib.bitLen_shift k x.toNat h (by omega)).symm
theorem len_at (x z : Int) (k m : Nat) (hx : 1 ≤ x) (h1 : x ≤ 18446744073709551615) (hm : 2 ^ k = m) (hk : k ≤ 56) (hz : z.toNat = x.toNat / m) (h : m ≤ x.toNat) (z0 : 0 ≤ z) (z1 : z ≤ 255) (hh : z.toNat < Lib.len8tab.size) :
    wrap64 ((k : Int) + wrap64 ((Lib.len8tab[z.toNat]'hh).toNat : Int)) = Lib.bitLen x.toNat := by
  rw [len_get z hh, Lib.len8_of z z0 z1, wrap_small k _ hk (Lib.bitLen_le8' z z0 z1), len_sum x z k m hx h1 hm hz h]
set_option maxRecDepth 100000 in
theorem len64_any (x : Int) (w : World) (hx : 1 ≤ x) (hx' : x ≤ 18446744073709551615) :
    Calls Tryz.prog 112 #[.int .u64 x] w fun e w' => e = .returned (.int .i64 (Lib.bitLen x.toNat)) ∧ w = w' := by
  have hs := len_size
  go_enter Tryz.func112, Tryz.ntmps112
  go_wp2
  all_goals (go_ret; refine ⟨ret_int ?_, rfl⟩)
  · exact len_at x _ 56 72057594037927936 hx hx' (by decide) (by omega) (by omega) (by omega) (by omega) (by omega) _
  · exact len_at x _ 48 281474976710656 hx hx' (by decide) (by omega) (by omega) (by omega) (by omega) (by omega) _
  · exact len_at x _ 40 1099511627776 hx hx' (by decide) (by omega) (by omega) (by omega) (by omega) (by omega) _
  · exact len_at x _ 32 4294967296 hx hx' (by decide) (by omega) (by omega) (by omega) (by omega) (by omega) _
  · exact len_at x _ 24 16777216 hx hx' (by decide) (by omega) (by omega) (by omega) (by omega) (by omega) _
  · exact len_at x _ 16 65536 hx hx' (by decide) (by omega) (by omega) (by omega) (by omega) (by omega) _
  · exact len_at x _ 8 256 hx hx' (by decide) (by omega) (by omega) (by omega) (by omega) (by omega) _
  · have := len_at x x 0 1 hx hx' (by decide) (by omega) (by omega) (by omega) (by omega) (by omega) (by rw [Lib.len8tab_size]; omega)
    simpa using this
theorem lead_bits (x : Int) (hx : 1 ≤ x) (hx' : x ≤ 18446744073709551615) : ∃ s : Nat, s ≤ 63 ∧ Lib.bitLen x.toNat + s = 64 ∧ 9223372036854775808 ≤ x * 2 ^ s ∧ x * 2 ^ s ≤ 18446744073709551615 := by
  obtain ⟨h1, h2, h3⟩ := Lib.bitLenAux_bounds 64 x.toNat (by omega) (by omega)
  have h4 := Lib.bitLen_le x.toNat 64 (by omega) (by omega)
  change 1 ≤ Lib.bitLen x.toNat at h1
  change 2 ^ (Lib.bitLen x.toNat - 1) ≤ x.toNat at h2
  change x.toNat < 2 ^ Lib.bitLen x.toNat at h3
  generalize Lib.bitLen x.toNat = L at *
  refine ⟨64 - L, by omega, by omega, ?_⟩
  obtain ⟨n, rfl⟩ := Int.eq_ofNat_of_zero_le (show 0 ≤ x by omega)
  simp only [Int.toNat_natCast] at *
  have e1 : 2 ^ (L - 1) * 2 ^ (64 - L) = 9223372036854775808 := by rw [← Nat.pow_add, show L - 1 + (64 - L) = 63 by omega]
  have e2 : 2 ^ L * 2 ^ (64 - L) = 18446744073709551616 := by rw [← Nat.pow_add, show L + (64 - L) = 64 by omega]
  have g1 := Nat.mul_le_mul_right (2 ^ (64 - L)) h2
  have g2 := Nat.mul_lt_mul_of_pos_right h3 (Nat.two_pow_pos (64 - L))
  have e3 : ((n : Int) * 2 ^ (64 - L)) = ((n * 2 ^ (64 - L) : Nat) : Int) := by rw [Int.natCast_mul, Int.natCast_pow]; rfl
  rw [e3]
  omega
theorem lead_any (x : Int) (w : World) (hx : 1 ≤ x) (hx' : x ≤ 18446744073709551615) (s : Nat) (hs : s ≤ 63) (he : Lib.bitLen x.toNat + s = 64) :
    Calls Tryz.prog 111 #[.int .u64 x] w fun e w' => e = .returned (.int .i64 s) ∧ w = w' := by
  have H : Hid ((64 : Int) - Lib.bitLen x.toNat = s) := by
    have : (64 : Int) - Lib.bitLen x.toNat = s := by omega
    exact Lib.hid this
  have g0 : (Lib.bitLen x.toNat : Int) ≤ 64 := by omega
  clear he
  go_enter Tryz.func111, Tryz.ntmps111
  go_wp2_with (go_at_call 112; refine (len64_any _ _ hx hx').mono ?_; rintro e w' ⟨rfl, rfl⟩)
  go_ret
  exact ⟨ret_int H.out, rfl⟩
end Go.Proofs.YtgmeakcfiaopcaaGreat

/- Plain reckoning for a quotient of 128 bits by 64 bits: the two guesses, each lowered till it fits, are the two halves of the quotient. -/
namespace Go.Proofs.YtgmeakcfiaopcaaGreat
open Go.RowKit Go.IntWalk

/-- What holds of a guess q and its rest r. -/
def KInv (u a T q r : Int) : Prop := q * a + r = u ∧ 0 ≤ T ∧ T ≤ 4294967295 ∧ T ≤ q ∧ q ≤ 4294967297 ∧ 0 ≤ r ∧ r ≤ 4294967295
/-- A divisor in two halves, the upper one with its highest bit. -/
def KDiv (Y a b : Int) : Prop := Y = a * 4294967296 + b ∧ 2147483648 ≤ a ∧ a ≤ 4294967295 ∧ 0 ≤ b ∧ b ≤ 4294967295
theorem k_quo {Y a b u v : Int} (hd : KDiv Y a b) (hu : 0 ≤ u) (huY : u < Y) (hv : 0 ≤ v) (hv' : v ≤ 4294967295) :
    0 ≤ (u * 4294967296 + v) / Y ∧ (u * 4294967296 + v) / Y ≤ 4294967295 ∧ (u * 4294967296 + v) / Y * Y ≤ u * 4294967296 + v ∧ u * 4294967296 + v < ((u * 4294967296 + v) / Y + 1) * Y := by
  obtain ⟨h1, h2, h3, h4, h5⟩ := hd
  have hY : 0 < Y := by omega
  refine ⟨Int.ediv_nonneg (by omega) (by omega), ?_, Int.ediv_mul_le _ (by omega), Int.lt_ediv_add_one_mul_self _ hY⟩
  have : (u * 4294967296 + v) / Y < 4294967296 := Int.ediv_lt_of_lt_mul hY (by omega)
  omega
theorem k_start {Y a b u v : Int} (hd : KDiv Y a b) (hu : 0 ≤ u) (huY : u < Y) (hv : 0 ≤ v) (hv' : v ≤ 4294967295) :
    KInv u a ((u * 4294967296 + v) / Y) (u / a) (u - u / a * a) := by
  obtain ⟨t1, t2, t3, t4⟩ := k_quo hd hu huY hv hv'
  obtain ⟨h1, h2, h3, h4, h5⟩ := hd
  have m1 := Int.emod_nonneg u (show a ≠ 0 by omega)
  have m2 := Int.emod_lt_of_pos u (show 0 < a by omega)
  have m3 := Int.emod_add_mul_ediv u a
  rw [Int.mul_comm a] at m3
  have q0 : 0 ≤ u / a := Int.ediv_nonneg hu (by omega)
  generalize (u * 4294967296 + v) / Y = T at *
  refine ⟨by omega, t1, t2, ?_, ?_, by omega, by omega⟩
  · rw [Int.le_ediv_iff_mul_le (by omega)]
    have e : T * Y = T * a * 4294967296 + T * b := by subst h1; grind
    have n : 0 ≤ T * b := Int.mul_nonneg t1 h4
    omega
  · have : u / a < 4294967298 := Int.ediv_lt_of_lt_mul (by omega) (by omega)
    omega
theorem k_over {Y a b u v q r : Int} (hd : KDiv Y a b) (hu : 0 ≤ u) (huY : u < Y) (hv : 0 ≤ v) (hv' : v ≤ 4294967295) (hk : KInv u a ((u * 4294967296 + v) / Y) q r)
    (h : 4294967296 ≤ q ∨ 4294967296 * r + v < q * b) : (u * 4294967296 + v) / Y ≤ q - 1 := by
  obtain ⟨t1, t2, t3, t4⟩ := k_quo hd hu huY hv hv'
  obtain ⟨h1, h2, h3, h4, h5⟩ := hd
  obtain ⟨k1, _, _, k2, k3, k4, k5⟩ := hk
  generalize (u * 4294967296 + v) / Y = T at *
  rcases h with h | h
  · omega
  · have e : q * Y = (q * a) * 4294967296 + q * b := by subst h1; grind
    have l : T * Y < q * Y := by omega
    have := Int.lt_of_mul_lt_mul_right l (by omega)
    omega
theorem k_step {u a T q r : Int} (hk : KInv u a T q r) (h : T ≤ q - 1) (ha : 0 ≤ a) (hr : r + a ≤ 4294967295) : KInv u a T (q - 1) (r + a) := by
  obtain ⟨k1, k6, k7, k2, k3, k4, k5⟩ := hk
  exact ⟨by rw [← k1]; grind, k6, k7, h, by omega, by omega, hr⟩
theorem k_break {Y a b u v q r : Int} (hd : KDiv Y a b) (hu : 0 ≤ u) (huY : u < Y) (hv : 0 ≤ v) (hv' : v ≤ 4294967295) (hk : KInv u a ((u * 4294967296 + v) / Y) q r)
    (h : (u * 4294967296 + v) / Y ≤ q - 1) (hr : 4294967296 ≤ r + a) : q - 1 = (u * 4294967296 + v) / Y := by
  obtain ⟨t1, t2, t3, t4⟩ := k_quo hd hu huY hv hv'
  obtain ⟨h1, h2, h3, h4, h5⟩ := hd
  obtain ⟨k1, _, _, k2, k3, k4, k5⟩ := hk
  generalize (u * 4294967296 + v) / Y = T at *
  have e : (q - 1) * Y = (q * a) * 4294967296 - a * 4294967296 + (q - 1) * b := by subst h1; grind
  have n : (q - 1) * b ≤ 4294967296 * 4294967295 := Int.mul_le_mul (by omega) h5 h4 (by omega)
  have l : (q - 1) * Y < (T + 1) * Y := by omega
  have := Int.lt_of_mul_lt_mul_right l (by omega)
  omega
theorem k_stop {Y a b u v q r : Int} (hd : KDiv Y a b) (hu : 0 ≤ u) (huY : u < Y) (hv : 0 ≤ v) (hv' : v ≤ 4294967295) (hk : KInv u a ((u * 4294967296 + v) / Y) q r)
    (h : q * b ≤ 4294967296 * r + v) : q = (u * 4294967296 + v) / Y := by
  obtain ⟨t1, t2, t3, t4⟩ := k_quo hd hu huY hv hv'
  obtain ⟨h1, h2, h3, h4, h5⟩ := hd
  obtain ⟨k1, _, _, k2, k3, k4, k5⟩ := hk
  generalize (u * 4294967296 + v) / Y = T at *
  have e : q * Y = (q * a) * 4294967296 + q * b := by subst h1; grind
  have l : q * Y < (T + 1) * Y := by omega
  have := Int.lt_of_mul_lt_mul_right l (by omega)
  omega
/-- What is left, reckoned with numbers that go round. -/
theorem k_rest {Y u v : Int} (hY : 0 < Y) (hY' : Y ≤ 18446744073709551615) :
    IntKind.u64.wrap (IntKind.u64.wrap (IntKind.u64.wrap (u * 4294967296) + v) - IntKind.u64.wrap ((u * 4294967296 + v) / Y * Y)) = (u * 4294967296 + v) % Y := by
  have m1 := Int.emod_nonneg (u * 4294967296 + v) (show Y ≠ 0 by omega)
  have m2 := Int.emod_lt_of_pos (u * 4294967296 + v) hY
  have m3 := Int.emod_add_mul_ediv (u * 4294967296 + v) Y
  rw [Int.mul_comm Y] at m3
  generalize (u * 4294967296 + v) / Y * Y = P at *
  simp only [wrap_u64]
  omega
theorem or_parts (h l : Int) (s : Nat) (hs : s ≤ 63) (h0 : 0 ≤ h) (hh : h * 2 ^ s ≤ 18446744073709551615) (l0 : 0 ≤ l) (l1 : l ≤ 18446744073709551615) :
    bits .or .u64 (h * 2 ^ s) (l / 2 ^ (64 - s)) = h * 2 ^ s + l / 2 ^ (64 - s) := by
  obtain ⟨h, rfl⟩ := Int.eq_ofNat_of_zero_le h0
  obtain ⟨l, rfl⟩ := Int.eq_ofNat_of_zero_le l0
  have hp : 2 ^ s * 2 ^ (64 - s) = 18446744073709551616 := by rw [← Nat.pow_add, show s + (64 - s) = 64 by omega]
  have hq : l / 2 ^ (64 - s) < 2 ^ s := by rw [Nat.div_lt_iff_lt_mul (Nat.two_pow_pos _), hp]; omega
  have e1 : ((h : Int) * 2 ^ s) = ((h * 2 ^ s : Nat) : Int) := by rw [Int.natCast_mul, Int.natCast_pow]; rfl
  have e2 : ((l : Int) / 2 ^ (64 - s)) = ((l / 2 ^ (64 - s) : Nat) : Int) := by rw [Int.natCast_ediv, Int.natCast_pow]; rfl
  rw [e1] at hh
  rw [e1, e2, bits_or_u64_nat _ _ (by omega) (by have := Nat.div_le_self l (2 ^ (64 - s)); omega)]
  rw [Nat.mul_comm h, ← Nat.two_pow_add_eq_or_of_lt hq, Int.natCast_add]
theorem shl_parts (l : Int) (s : Nat) (hs : s ≤ 63) : l * 2 ^ s = l / 2 ^ (64 - s) * 18446744073709551616 + IntKind.u64.wrap (l * 2 ^ s) := by
  have hp : (2 : Int) ^ s * 2 ^ (64 - s) = 18446744073709551616 := by rw [← Int.pow_add, show s + (64 - s) = 64 by omega]; rfl
  have e : l * 2 ^ s / 18446744073709551616 = l / 2 ^ (64 - s) := by
    rw [← hp, Int.mul_comm l]
    exact Int.mul_ediv_mul_of_pos _ _ (Int.pow_pos (by decide))
  rw [wrap_u64, ← e]
  omega
/-- The two halves of the quotient, and the rest, brought back. -/
theorem k_back {h l y m Y u v1 v0 Q R T R2 L F : Int} (hm : 0 < m) (hY : Y = y * m) (hy : 0 < y) (hl : l * m = F * 18446744073709551616 + L) (hL : L = v1 * 4294967296 + v0) (hu : u = h * m + F)
    (hQ : Q = (u * 4294967296 + v1) / Y) (hR : R = (u * 4294967296 + v1) % Y) (hT : T = (R * 4294967296 + v0) / Y) (hR2 : R2 = (R * 4294967296 + v0) % Y) :
    Q * 4294967296 + T = (h * 18446744073709551616 + l) / y ∧ R2 / m = (h * 18446744073709551616 + l) % y := by
  have hYp : 0 < Y := by rw [hY]; exact Int.mul_pos hy hm
  have a1 := Int.emod_add_mul_ediv (u * 4294967296 + v1) Y
  rw [← hQ, ← hR] at a1
  have a2 := Int.emod_add_mul_ediv (R * 4294967296 + v0) Y
  rw [← hT, ← hR2] at a2
  have b1 : 0 ≤ R2 := by rw [hR2]; exact Int.emod_nonneg _ (by omega)
  have b2 : R2 < Y := by rw [hR2]; exact Int.emod_lt_of_pos _ hYp
  clear hQ hR hT hR2
  have c1 : (h * 18446744073709551616 + l - y * (Q * 4294967296 + T)) * m = R2 := by subst hY hu hL; grind
  have c2 : R2 / m = h * 18446744073709551616 + l - y * (Q * 4294967296 + T) := by rw [← c1]; exact Int.mul_ediv_cancel _ (by omega)
  have c3 : 0 ≤ h * 18446744073709551616 + l - y * (Q * 4294967296 + T) := by rw [← c2]; exact Int.ediv_nonneg b1 (by omega)
  have c4 : h * 18446744073709551616 + l - y * (Q * 4294967296 + T) < y := by
    rw [← c2]; exact Int.ediv_lt_of_lt_mul hm (by rw [← hY]; exact b2)
  have c5 := (Int.ediv_emod_unique (a := h * 18446744073709551616 + l) (b := y) (r := h * 18446744073709551616 + l - y * (Q * 4294967296 + T)) (q := Q * 4294967296 + T) hy).2 ⟨by omega, c3, c4⟩
  exact ⟨c5.1.symm, by rw [c2, c5.2]⟩
end Go.Proofs.YtgmeakcfiaopcaaGreat

