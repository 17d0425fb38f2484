/- Texts of this seat, one behind the other. -/
import Derived.Test.YtgmeakcfiaopcaaGrpSc2
import Derived.Test.YtgmeakcfiaopcaaGrpSc1
import Derived.Test.YtgmeakcfiaopcaaProg
import Derived.Shelf.Abstract
import Derived.Deep.RegionHeld3
import Derived.Deep.DrawnRows
import Derived.Outline
import Derived.Deep.RegionLaw
import Derived.Deep.QuietTactic
import Derived.BigQuiet
import Derived.Deep.RegionWith
import Derived.Deep.CutBlock
/- Slopes: how great they may be; on lines; moved; signs. -/
namespace Go.Proofs.Ytgmeakcfiaopcaa
open Go.RowKit
set_option linter.unusedVariables false

theorem of_bd (d : Int) (L : List Ent) : 1 ≤ (ofV d L).2 ∧ (ofV d L).2 ≤ 1125899906842624 ∧ -2251799813685248 ≤ (ofV d L).1 ∧ (ofV d L).1 ≤ 2251799813685248 ∧ ¬ 2 * dV d * (ofV d L).2 < max (ofV d L).1 (-(ofV d L).1) * (1000 - dV d) := by
  obtain ⟨v1, v2⟩ := dV_bd d
  by_cases hF : FitsL L
  · by_cases h0 : denV (ptsL L) = 0
    · rw [of_flat h0]
      simp
      omega
    · rw [of_is hF h0]
      obtain ⟨n1, n2, d1, d2⟩ := numden_bd (near_in hF) (fits_len hF)
      generalize numV (ptsL L) = a at *
      generalize denV (ptsL L) = b at *
      obtain ⟨c, hc⟩ : ∃ c, 2 * dV d = c := ⟨_, rfl⟩
      obtain ⟨e, he⟩ : ∃ e, 1000 - dV d = e := ⟨_, rfl⟩
      rw [hc, he]
      obtain ⟨k1, k2, k3⟩ := clamp_bound (a := a) (b := b) (c := c) (d := e) (by omega) (by omega) (by omega)
      have hcl : clampS a b c e = (c, e) ∨ clampS a b c e = (-c, e) ∨ clampS a b c e = (a, b) := by
        unfold clampS
        split
        · exact .inl rfl
        · split
          · exact .inr (.inl rfl)
          · exact .inr (.inr rfl)
      refine ⟨by omega, ?_, ?_, ?_, ?_⟩
      · rcases hcl with h | h | h <;> rw [h] <;> dsimp only <;> omega
      · rcases hcl with h | h | h <;> rw [h] <;> dsimp only <;> omega
      · rcases hcl with h | h | h <;> rw [h] <;> dsimp only <;> omega
      · rcases Int.le_total (clampS a b c e).1 (-(clampS a b c e).1) with h | h
        · rw [Int.max_eq_right h]
          omega
        · rw [Int.max_eq_left h]
          omega
  · rw [of_not hF]
    simp
    omega

/-- One by one the Locals rise. -/
def RiseTo (L : List Ent) (k : Nat) : Prop := ∀ i x y, i + 1 < k → L[i]? = some x → L[i + 1]? = some y → x.1 < y.1
def UpTo (L : List Ent) (k : Nat) : Prop := ∀ i x y, i + 1 < k → L[i]? = some x → L[i + 1]? = some y → x.2.1 ≤ y.2.1
def DownTo (L : List Ent) (k : Nat) : Prop := ∀ i x y, i + 1 < k → L[i]? = some x → L[i + 1]? = some y → y.2.1 ≤ x.2.1
section
variable {L : List Ent} {k : Nat} {x y : Ent}
theorem rise_one : RiseTo L 1 := fun i _ _ h => by omega
theorem up_one : UpTo L 1 := fun i _ _ h => by omega
theorem down_one : DownTo L 1 := fun i _ _ h => by omega
theorem rise_next (h : RiseTo L (k + 1)) (hx : L[k]? = some x) (hy : L[k + 1]? = some y) (hxy : x.1 < y.1) : RiseTo L (k + 1 + 1) := fun i u v hi hu hv => by
  by_cases e : i = k
  · subst e
    rw [hx] at hu
    rw [hy] at hv
    cases hu
    cases hv
    exact hxy
  · exact h i u v (by omega) hu hv
theorem up_next (h : UpTo L (k + 1)) (hx : L[k]? = some x) (hy : L[k + 1]? = some y) (hxy : x.2.1 ≤ y.2.1) : UpTo L (k + 1 + 1) := fun i u v hi hu hv => by
  by_cases e : i = k
  · subst e
    rw [hx] at hu
    rw [hy] at hv
    cases hu
    cases hv
    exact hxy
  · exact h i u v (by omega) hu hv
theorem down_next (h : DownTo L (k + 1)) (hx : L[k]? = some x) (hy : L[k + 1]? = some y) (hxy : y.2.1 ≤ x.2.1) : DownTo L (k + 1 + 1) := fun i u v hi hu hv => by
  by_cases e : i = k
  · subst e
    rw [hx] at hu
    rw [hy] at hv
    cases hu
    cases hv
    exact hxy
  · exact h i u v (by omega) hu hv
end
/-- A relation that holds from each to the next, and goes on, holds from each to all behind it. -/
theorem pairs_of {α : Type} {R : α → α → Prop} (ht : ∀ a b c, R a b → R b c → R a c) {L : List α} (h : ∀ i x y, L[i]? = some x → L[i + 1]? = some y → R x y) : L.Pairwise R := by
  rw [List.pairwise_iff_getElem]
  intro i j hi hj hij
  induction j with
  | zero => omega
  | succ j ih =>
    have hjj : j < L.length := by omega
    have hstep := h j L[j] L[j + 1] (List.getElem?_eq_getElem hjj) (List.getElem?_eq_getElem hj)
    by_cases e : i = j
    · subst e
      exact hstep
    · exact ht _ _ _ (ih hjj (by omega)) hstep
theorem pts_pair {R : Int × Int → Int × Int → Prop} {L : List Ent} (h : L.Pairwise fun x y => R (ptO (headE L) x) (ptO (headE L) y)) : (ptsL L).Pairwise R := by
  unfold ptsL
  exact List.pairwise_map.2 h
theorem clamp_sign_up {a b c d : Int} (hb : 0 ≤ b) (hc : 0 ≤ c) (hd : 0 ≤ d) (ha : 0 ≤ a) : 0 ≤ (clampS a b c d).1 := by
  have h1 := Int.mul_nonneg hc hb
  have h2 := Int.mul_nonneg ha hd
  unfold clampS
  split
  · exact hc
  · split
    · rename_i h
      rw [Int.neg_mul] at h
      omega
    · exact ha
theorem clamp_sign_down {a b c d : Int} (hb : 0 ≤ b) (hc : 0 ≤ c) (hd : 0 ≤ d) (ha : a ≤ 0) : (clampS a b c d).1 ≤ 0 := by
  have h1 := Int.mul_nonneg hc hb
  have h2 := mul_nonpos_of hd ha
  rw [Int.mul_comm] at h2
  unfold clampS
  split
  · omega
  · split
    · show -c ≤ 0
      omega
    · exact ha
theorem of_up (d : Int) {L : List Ent} {n : Nat} (hn : L.length = n) (h1 : RiseTo L n) (h2 : UpTo L n) : 0 ≤ (ofV d L).1 := by
  obtain ⟨v1, v2⟩ := dV_bd d
  by_cases hF : FitsL L
  · by_cases h0 : denV (ptsL L) = 0
    · rw [of_flat h0]; exact Int.le_refl _
    · rw [of_is hF h0]
      refine clamp_sign_up (den_nonneg _ _ rfl) (by omega) (by omega) (num_up _ _ rfl (pts_pair ?_))
      refine pairs_of (R := fun x y => (ptO (headE L) x).1 ≤ (ptO (headE L) y).1 ∧ (ptO (headE L) x).2 ≤ (ptO (headE L) y).2) (fun a b c h h' => ⟨Int.le_trans h.1 h'.1, Int.le_trans h.2 h'.2⟩) (fun i x y hx hy => ?_)
      have hl := (List.getElem?_eq_some_iff.1 hy).1
      have e1 := h1 i x y (by omega) hx hy
      have e2 := h2 i x y (by omega) hx hy
      unfold ptO
      dsimp only
      omega
  · rw [of_not hF]; exact Int.le_refl _
theorem of_down (d : Int) {L : List Ent} {n : Nat} (hn : L.length = n) (h1 : RiseTo L n) (h2 : DownTo L n) : (ofV d L).1 ≤ 0 := by
  obtain ⟨v1, v2⟩ := dV_bd d
  by_cases hF : FitsL L
  · by_cases h0 : denV (ptsL L) = 0
    · rw [of_flat h0]; exact Int.le_refl _
    · rw [of_is hF h0]
      refine clamp_sign_down (den_nonneg _ _ rfl) (by omega) (by omega) (num_down _ _ rfl (pts_pair ?_))
      refine pairs_of (R := fun x y => (ptO (headE L) x).1 ≤ (ptO (headE L) y).1 ∧ (ptO (headE L) y).2 ≤ (ptO (headE L) x).2) (fun a b c h h' => ⟨Int.le_trans h.1 h'.1, Int.le_trans h'.2 h.2⟩) (fun i x y hx hy => ?_)
      have hl := (List.getElem?_eq_some_iff.1 hy).1
      have e1 := h1 i x y (by omega) hx hy
      have e2 := h2 i x y (by omega) hx hy
      unfold ptO
      dsimp only
      omega
  · rw [of_not hF]; exact Int.le_refl _
end Go.Proofs.Ytgmeakcfiaopcaa

/- Maps from one clock's time to another's: plain mathematics. Time goes on; how near it is. -/
namespace Go.Proofs.Ytgmeakcfiaopcaa
open Go.RowKit
set_option linter.unusedVariables false

/-- A slope as Of answers it: no greater than the greatest (c / e), no less than its opposite. -/
structure SlOk (c e a b : Int) : Prop where
  b1 : 1 ≤ b
  b2 : b ≤ 1125899906842624
  c0 : 0 ≤ c
  c1 : c ≤ 20
  e0 : 990 ≤ e
  e1 : e ≤ 1000
  up : a * e ≤ c * b
  down : -a * e ≤ c * b
theorem of_ok (d : Int) (L : List Ent) : SlOk (2 * dV d) (1000 - dV d) (ofV d L).1 (ofV d L).2 := by
  obtain ⟨v1, v2⟩ := dV_bd d
  obtain ⟨k1, k2, k3, k4, k5⟩ := of_bd d L
  have m1 := Int.mul_le_mul_of_nonneg_right (show (ofV d L).1 ≤ max (ofV d L).1 (-(ofV d L).1) by omega) (show 0 ≤ 1000 - dV d by omega)
  have m2 := Int.mul_le_mul_of_nonneg_right (show -(ofV d L).1 ≤ max (ofV d L).1 (-(ofV d L).1) by omega) (show 0 ≤ 1000 - dV d by omega)
  exact ⟨k1, k2, by omega, by omega, by omega, by omega, by omega, by omega⟩
section
variable {c e a b : Int}
/-- It is less than a whole, on both sides. -/
theorem SlOk.whole (h : SlOk c e a b) : -b ≤ a ∧ a ≤ b := by
  obtain ⟨b1, b2, c0, c1, e0, e1, up, down⟩ := h
  have k := Int.mul_le_mul_of_nonneg_right c1 (show 0 ≤ b by omega)
  constructor
  · refine Classical.byContradiction fun hn => ?_
    have := Int.mul_le_mul (show b + 1 ≤ -a by omega) e0 (by omega) (by omega)
    omega
  · refine Classical.byContradiction fun hn => ?_
    have := Int.mul_le_mul (show b + 1 ≤ a by omega) e0 (by omega) (by omega)
    omega
/-- What it gains in so many ticks, on neither side more than these. -/
theorem SlOk.quot (h : SlOk c e a b) (t : Int) : b * (a * t / b) ≤ a * t ∧ a * t < b * (a * t / b) + b := by
  have hb := h.b1
  have h1 := Int.emod_add_mul_ediv (a * t) b
  have h2 := Int.emod_nonneg (a * t) (show b ≠ 0 by omega)
  have h3 := Int.emod_lt_of_pos (a * t) (show 0 < b by omega)
  omega
theorem SlOk.within (h : SlOk c e a b) (t : Int) : -(if 0 ≤ t then t else -t) ≤ a * t / b ∧ a * t / b ≤ (if 0 ≤ t then t else -t) := by
  obtain ⟨w1, w2⟩ := h.whole
  obtain ⟨q1, q2⟩ := h.quot t
  have hb := h.b1
  obtain ⟨T, hT⟩ : ∃ T, T = if 0 ≤ t then t else -t := ⟨_, rfl⟩
  rw [← hT]
  have hT0 : 0 ≤ T := by rw [hT]; split <;> omega
  have hTt : -T ≤ t ∧ t ≤ T := by rw [hT]; split <;> omega
  obtain ⟨p1, p2⟩ := prod_bd (x := a) (y := t) (m := b) (k := T) ⟨w1, w2⟩ hTt
  generalize a * t / b = q at *
  constructor
  · refine Classical.byContradiction fun hn => ?_
    have := Int.mul_le_mul_of_nonneg_left (show q + 1 ≤ -T by omega) (show 0 ≤ b by omega)
    rw [Int.mul_add, Int.mul_neg] at this
    omega
  · refine Classical.byContradiction fun hn => ?_
    have := Int.mul_le_mul_of_nonneg_left (show T + 1 ≤ q by omega) (show 0 ≤ b by omega)
    rw [Int.mul_add] at this
    omega
theorem SlOk.gain (h : SlOk c e a b) {t : Int} (h1 : -4503599627370496 ≤ t) (h2 : t ≤ 4503599627370496) : gainV a b t = a * t / b := by
  obtain ⟨k1, k2⟩ := h.within t
  unfold gainV
  rw [if_pos]
  refine ⟨h.b1, ?_, ?_⟩
  · split at k1 <;> omega
  · split at k2 <;> omega
/-- Further on by so many ticks: neither back by more than these, nor on by more than the greatest slope gains, and one tick. -/
theorem SlOk.on (h : SlOk c e a b) (t : Int) {n : Int} (hn : 0 ≤ n) : a * t / b - n ≤ a * (t + n) / b ∧ a * (t + n) / b ≤ a * t / b + c * n / e + 1 := by
  obtain ⟨w1, w2⟩ := h.whole
  obtain ⟨q1, q2⟩ := h.quot t
  obtain ⟨r1, r2⟩ := h.quot (t + n)
  have hb := h.b1
  have he : 0 < e := by have := h.e0; omega
  have hd : a * (t + n) = a * t + a * n := by grind
  rw [hd] at r1 r2 ⊢
  have f1 := Int.emod_add_mul_ediv (c * n) e
  have f2 := Int.emod_nonneg (c * n) (show e ≠ 0 by omega)
  have f3 := Int.emod_lt_of_pos (c * n) he
  have an1 : -(b * n) ≤ a * n := by
    have := Int.mul_le_mul_of_nonneg_right w1 hn
    rw [Int.neg_mul] at this
    exact this
  have an2 : a * n * e ≤ c * n * b := by
    have := Int.mul_le_mul_of_nonneg_right h.up hn
    have e1 : a * e * n = a * n * e := by grind
    have e2 : c * b * n = c * n * b := by grind
    omega
  generalize hq : a * t / b = q at *
  generalize hr : (a * t + a * n) / b = r at *
  generalize hF : c * n / e = F at *
  generalize a * t = x at *
  generalize hy : a * n = y at *
  generalize hz : c * n = z at *
  constructor
  · refine Classical.byContradiction fun hc => ?_
    have := Int.mul_le_mul_of_nonneg_left (show r + 1 ≤ q - n by omega) (show 0 ≤ b by omega)
    rw [Int.mul_add, Int.mul_sub] at this
    omega
  · refine Classical.byContradiction fun hc => ?_
    have m1 := Int.mul_le_mul_of_nonneg_left (show q + F + 2 ≤ r by omega) (show 0 ≤ b by omega)
    rw [Int.mul_add, Int.mul_add] at m1
    -- b F + b ≤ y, though y e ≤ z b and z < e F + e
    have m2 : b * F + b < y := by omega
    have m3 := Int.mul_lt_mul_of_pos_right m2 he
    have m4 := Int.mul_le_mul_of_nonneg_right (show z + 1 ≤ e * F + e by omega) (show 0 ≤ b by omega)
    have e3 : (b * F + b) * e = (e * F + e) * b := by grind
    rw [Int.add_mul] at m4
    omega
end
end Go.Proofs.Ytgmeakcfiaopcaa

/- Maps from one clock's time to another's: how near they are, where all entries were. Plain mathematics. -/
namespace Go.Proofs.Ytgmeakcfiaopcaa
open Go.RowKit
set_option linter.unusedVariables false

def sumE (f : Ent → Int) : List Ent → Int
  | [] => 0
  | x :: L => f x + sumE f L
def entL (e : Ent) : Int := e.1
def entO (e : Ent) : Int := e.2.1
theorem sumE_append (f : Ent → Int) : ∀ L M : List Ent, sumE f (L ++ M) = sumE f L + sumE f M
  | [], M => by simp [sumE]
  | x :: L, M => by
    show f x + sumE f (L ++ M) = f x + sumE f L + sumE f M
    rw [sumE_append f L M]
    omega
theorem sumE_snoc (f : Ent → Int) (L : List Ent) (x : Ent) : sumE f (L ++ [x]) = sumE f L + f x := by
  rw [sumE_append]
  show _ + (f x + 0) = _
  omega
theorem sumE_bd (f : Ent → Int) (lo hi : Int) : ∀ L : List Ent, (∀ x ∈ L, lo ≤ f x ∧ f x ≤ hi) → (L.length : Int) * lo ≤ sumE f L ∧ sumE f L ≤ (L.length : Int) * hi
  | [], _ => by simp [sumE]
  | x :: L, h => by
    have h1 := h x (List.mem_cons_self ..)
    have h2 := sumE_bd f lo hi L (fun q hq => h q (List.mem_cons_of_mem _ hq))
    have e1 : ((x :: L).length : Int) * lo = (L.length : Int) * lo + lo := by rw [List.length_cons]; grind
    have e2 : ((x :: L).length : Int) * hi = (L.length : Int) * hi + hi := by rw [List.length_cons]; grind
    rw [e1, e2]
    show _ ≤ f x + sumE f L ∧ f x + sumE f L ≤ _
    omega
/-- A mean, rounded down, of numbers within bounds is within these. -/
theorem mean_bd {S n lo hi : Int} (hn : 0 < n) (h : n * lo ≤ S ∧ S ≤ n * hi) : lo ≤ S / n ∧ S / n ≤ hi := by
  constructor
  · rw [Int.le_ediv_iff_mul_le hn, Int.mul_comm]
    exact h.1
  · rw [← Int.lt_add_one_iff, Int.ediv_lt_iff_lt_mul hn, Int.add_mul, Int.mul_comm hi n]
    omega
/-- An entry that was right, but for off ticks, of a clock that is ahead by O at the time q, and gains no more than c in each e ticks. -/
structure Right (c e q O off first : Int) (x : Ent) : Prop where
  lo : first ≤ x.1
  hi : x.1 ≤ q
  up : e * (x.2.1 - O) ≤ c * (q - x.1) + e * off
  down : e * (O - x.2.1) ≤ c * (q - x.1) + e * off
theorem Right.step {c e q O off first k g : Int} {x : Ent} (h : Right c e q O off first x) (he : 0 < e) (hk : 0 ≤ k) (h1 : -(c * k / e) ≤ g) (h2 : g ≤ c * k / e) : Right c e (q + k) (O + g) off first x := by
  obtain ⟨lo, hi, up, down⟩ := h
  have f1 := Int.emod_add_mul_ediv (c * k) e
  have f2 := Int.emod_nonneg (c * k) (show e ≠ 0 by omega)
  have g1 := Int.mul_le_mul_of_nonneg_left h2 (Int.le_of_lt he)
  have g2 := Int.mul_le_mul_of_nonneg_left h1 (Int.le_of_lt he)
  rw [Int.mul_neg] at g2
  generalize c * k / e = F at *
  have e1 : e * (x.2.1 - (O + g)) = e * (x.2.1 - O) - e * g := by grind
  have e2 : e * (O + g - x.2.1) = e * (O - x.2.1) + e * g := by grind
  have e3 : c * (q + k - x.1) = c * (q - x.1) + c * k := by grind
  refine ⟨lo, by omega, ?_, ?_⟩
  · rw [e1, e3]; omega
  · rw [e2, e3]; omega
theorem Right.new {c e q O off first err h : Int} (he : 0 < e) (hf : first ≤ q) (h1 : -off ≤ err) (h2 : err ≤ off) : Right c e q O off first (q, O + err, h) := by
  have m1 := Int.mul_le_mul_of_nonneg_left h1 (Int.le_of_lt he)
  have m2 := Int.mul_le_mul_of_nonneg_left h2 (Int.le_of_lt he)
  rw [Int.mul_neg] at m1
  refine ⟨hf, Int.le_refl _, ?_, ?_⟩
  · have e1 : e * (O + err - O) = e * err := by grind
    have e2 : c * (q - q) = 0 := by grind
    show e * (O + err - O) ≤ c * (q - q) + e * off
    rw [e1, e2]; omega
  · have e1 : e * (O - (O + err)) = -(e * err) := by grind
    have e2 : c * (q - q) = 0 := by grind
    show e * (O - (O + err)) ≤ c * (q - q) + e * off
    rw [e1, e2]; omega
theorem right_sum {c e q O off first : Int} : ∀ {L : List Ent}, (∀ x ∈ L, Right c e q O off first x) →
    (L.length : Int) * first ≤ sumE entL L ∧ sumE entL L ≤ (L.length : Int) * q ∧
    e * (sumE entO L - (L.length : Int) * O) ≤ c * ((L.length : Int) * q - sumE entL L) + (L.length : Int) * (e * off) ∧
    e * ((L.length : Int) * O - sumE entO L) ≤ c * ((L.length : Int) * q - sumE entL L) + (L.length : Int) * (e * off)
  | [], _ => by simp [sumE]
  | x :: L, h => by
    obtain ⟨k1, k2, k3, k4⟩ := right_sum (L := L) (fun y hy => h y (List.mem_cons_of_mem _ hy))
    obtain ⟨lo, hi, up, down⟩ := h x (List.mem_cons_self ..)
    have hl : ((x :: L).length : Int) = (L.length : Int) + 1 := by simp
    have s1 : sumE entL (x :: L) = x.1 + sumE entL L := rfl
    have s2 : sumE entO (x :: L) = x.2.1 + sumE entO L := rfl
    rw [hl, s1, s2]
    generalize (L.length : Int) = n at *
    generalize sumE entL L = S at *
    generalize sumE entO L = T at *
    have e1 : (n + 1) * first = n * first + first := by grind
    have e2 : (n + 1) * q = n * q + q := by grind
    have e3 : e * (x.2.1 + T - (n + 1) * O) = e * (x.2.1 - O) + e * (T - n * O) := by grind
    have e4 : e * ((n + 1) * O - (x.2.1 + T)) = e * (O - x.2.1) + e * (n * O - T) := by grind
    have e5 : c * ((n + 1) * q - (x.1 + S)) + (n + 1) * (e * off) = c * (q - x.1) + e * off + (c * (n * q - S) + n * (e * off)) := by grind
    refine ⟨by omega, by omega, ?_, ?_⟩
    · rw [e3, e5]; omega
    · rw [e4, e5]; omega
/-- How near the time is that such entries tell. -/
theorem near_bound {c e a b q O off first : Int} {L : List Ent} (hs : SlOk c e a b) (hL : L ≠ []) (h : ∀ x ∈ L, Right c e q O off first x) :
    -(off + 2 * (c * (q - first) / e) + 4) ≤ sumE entO L / (L.length : Int) + a * (q - sumE entL L / (L.length : Int)) / b - O ∧
    sumE entO L / (L.length : Int) + a * (q - sumE entL L / (L.length : Int)) / b - O ≤ off + 2 * (c * (q - first) / e) + 4 := by
  obtain ⟨k1, k2, k3, k4⟩ := right_sum h
  have hn : 0 < (L.length : Int) := by
    have := List.length_pos_iff.2 hL
    omega
  generalize hS : sumE entL L = S at *
  generalize hT : sumE entO L = T at *
  generalize hnn : (L.length : Int) = n at *
  have a1 := Int.emod_add_mul_ediv S n
  have a2 := Int.emod_nonneg S (show n ≠ 0 by omega)
  have a3 := Int.emod_lt_of_pos S hn
  have b1 := Int.emod_add_mul_ediv T n
  have b2 := Int.emod_nonneg T (show n ≠ 0 by omega)
  have b3 := Int.emod_lt_of_pos T hn
  obtain ⟨l1, l2⟩ := mean_bd (S := S) (lo := first) (hi := q) hn ⟨k1, k2⟩
  have he0 : 0 < e := by have := hs.e0; omega
  have hb := hs.b1
  have g1 := Int.emod_add_mul_ediv (c * (q - first)) e
  have g2 := Int.emod_nonneg (c * (q - first)) (show e ≠ 0 by omega)
  have g3 := Int.emod_lt_of_pos (c * (q - first)) he0
  obtain ⟨q1, q2⟩ := hs.quot (q - S / n)
  generalize hl : S / n = l at *
  generalize hm : T / n = m at *
  generalize hF : c * (q - first) / e = F at *
  generalize hG : a * (q - l) / b = G at *
  have hql : 0 ≤ q - l := by omega
  -- what the slope gains, by the greatest one
  have u1 := Int.mul_le_mul_of_nonneg_right hs.up hql
  have u2 := Int.mul_le_mul_of_nonneg_right hs.down hql
  have G1 : e * G ≤ c * (q - l) := by
    refine Classical.byContradiction fun hc => ?_
    have h1 := Int.mul_le_mul_of_nonneg_right (show c * (q - l) + 1 ≤ e * G by omega) (show 0 ≤ b by omega)
    have h2 := Int.mul_le_mul_of_nonneg_left q1 (Int.le_of_lt he0)
    have e1 : e * G * b = e * (b * G) := by grind
    have e2 : e * (a * (q - l)) = a * e * (q - l) := by grind
    have e3 : c * b * (q - l) = c * (q - l) * b := by grind
    rw [Int.add_mul] at h1
    omega
  have G2 : -(c * (q - l)) < e * (G + 1) := by
    refine Classical.byContradiction fun hc => ?_
    have h1 := Int.mul_le_mul_of_nonneg_right (show e * (G + 1) ≤ -(c * (q - l)) by omega) (show 0 ≤ b by omega)
    have h2 := Int.mul_le_mul_of_nonneg_left (show a * (q - l) + 1 ≤ b * G + b by omega) (Int.le_of_lt he0)
    have e1 : e * (G + 1) * b = e * (b * G + b) := by grind
    have e2 : e * (a * (q - l) + 1) = a * e * (q - l) + e := by grind
    have e3 : c * b * (q - l) = c * (q - l) * b := by grind
    have e4 : -a * e * (q - l) = -(a * e * (q - l)) := by grind
    rw [Int.neg_mul] at h1
    omega
  -- all by n
  have hne := Int.mul_pos hn he0
  have hc0 := hs.c0
  have hc1 := hs.c1
  have hee := hs.e0
  have r1 := Int.mul_le_mul_of_nonneg_left (show n * q - S ≤ n * (q - first) by have : n * (q - first) = n * q - n * first := by grind
                                                                                omega) hc0
  have r2 := Int.mul_le_mul_of_nonneg_left (show n * (q - l) ≤ n * q - S + n by have : n * (q - l) = n * q - n * l := by grind
                                                                                omega) hc0
  have r3 : n * (c * (q - first)) < n * (e * F + e) := Int.mul_lt_mul_of_pos_left (by omega) hn
  have G1n := Int.mul_le_mul_of_nonneg_left G1 (Int.le_of_lt hn)
  have G2n := Int.mul_le_mul_of_nonneg_left (show -(c * (q - l)) + 1 ≤ e * (G + 1) by omega) (Int.le_of_lt hn)
  have c20 := Int.mul_le_mul_of_nonneg_right (show c ≤ e - 1 by omega) (Int.le_of_lt hn)
  have T1 := Int.mul_le_mul_of_nonneg_left (show n * m ≤ T by omega) (Int.le_of_lt he0)
  have T2 := Int.mul_le_mul_of_nonneg_left (show T + 1 ≤ n * m + n by omega) (Int.le_of_lt he0)
  have key : ∀ z : Int, n * e * z < 0 → z < 0 := fun z hz => by
    refine Classical.byContradiction fun hc => ?_
    have := Int.mul_nonneg (Int.mul_nonneg (Int.le_of_lt hn) (Int.le_of_lt he0)) (show 0 ≤ z by omega)
    omega
  constructor
  · have := key (-(off + 2 * F + 5) - (m + G - O)) (by
      have x1 : n * e * (-(off + 2 * F + 5) - (m + G - O)) = -(n * (e * off)) - 2 * (n * (e * F)) - 5 * (n * e) - e * (n * m) - n * (e * G) + e * (n * O) := by grind
      have x2 : n * (e * (G + 1)) = n * (e * G) + n * e := by grind
      have x3 : n * (-(c * (q - l)) + 1) = -(c * (n * (q - l))) + n := by grind
      have x4 : e * (n * O - T) = e * (n * O) - e * T := by grind
      have x5 : c * (n * q - S + n) = c * (n * q - S) + c * n := by grind
      have x6 : n * (e * F + e) = n * (e * F) + n * e := by grind
      have x7 : c * (n * (q - first)) = n * (c * (q - first)) := by grind
      have x8 : e * (T + 1) = e * T + e := by grind
      have x9 : e * (n * m + n) = e * (n * m) + n * e := by grind
      have x10 : (e - 1) * n = n * e - n := by grind
      omega)
    omega
  · have := key (m + G - O - (off + 2 * F + 5)) (by
      have x1 : n * e * (m + G - O - (off + 2 * F + 5)) = e * (n * m) + n * (e * G) - e * (n * O) - n * (e * off) - 2 * (n * (e * F)) - 5 * (n * e) := by grind
      have x3 : n * (c * (q - l)) = c * (n * (q - l)) := by grind
      have x4 : e * (T - n * O) = e * T - e * (n * O) := by grind
      have x5 : c * (n * q - S + n) = c * (n * q - S) + c * n := by grind
      have x6 : n * (e * F + e) = n * (e * F) + n * e := by grind
      have x7 : c * (n * (q - first)) = n * (c * (q - first)) := by grind
      have x10 : (e - 1) * n = n * e - n := by grind
      omega)
    omega
end Go.Proofs.Ytgmeakcfiaopcaa

/- The laws' tables: what is there of a list of entries, added one by one; the document's list beside it. -/
namespace Go.Proofs.Ytgmeakcfiaopcaa
open Go.RowKit
set_option linter.unusedVariables false
set_option linter.unusedSimpArgs false

open Classical in
noncomputable def stepL (L : List Ent) (e : Ent) : List Ent := if CanE e ∧ Later L e then pushL L e else L
noncomputable def fillL (L : List Ent) : List Ent := L.foldl stepL []
theorem step_L {L M : List Ent} {e : Ent} {v : Int} (h : Step L e M v) : stepL L e = M := by
  unfold stepL
  rcases h with ⟨hc, rfl, _⟩ | ⟨_, hl, rfl, _⟩ | ⟨hc, hl, rfl, _⟩
  · exact if_neg fun k => hc k.1
  · exact if_neg fun k => hl k.2
  · exact if_pos ⟨hc, hl⟩
theorem fillL_nil : fillL [] = [] := rfl
theorem fillL_snoc (L : List Ent) (e : Ent) : fillL (L ++ [e]) = stepL (fillL L) e := by
  unfold fillL
  rw [List.foldl_append]
  rfl
theorem pushL_mem {L : List Ent} {e x : Ent} (h : x ∈ pushL L e) : x ∈ L ∨ x = e := by
  unfold pushL at h
  split at h
  · rcases List.mem_append.1 h with h | h
    · exact .inl (List.mem_of_mem_tail h)
    · exact .inr (by simpa using h)
  · rcases List.mem_append.1 h with h | h
    · exact .inl h
    · exact .inr (by simpa using h)
/-- What a law's table has: entries that can be, no more than eight. -/
structure Ents8 (L : List Ent) : Prop where
  le : L.length ≤ 8
  can : ∀ e ∈ L, CanE e
theorem ents8_nil : Ents8 [] := ⟨Nat.zero_le _, fun e h => by cases h⟩
theorem Ents8.push {L : List Ent} {e : Ent} (h : Ents8 L) (hc : CanE e) : Ents8 (pushL L e) :=
  ⟨pushL_len h.le e, fun x hx => by
    rcases pushL_mem hx with hx | rfl
    · exact h.can x hx
    · exact hc⟩
theorem Ents8.step {L : List Ent} {e : Ent} (h : Ents8 L) : Ents8 (stepL L e) := by
  unfold stepL
  split
  · rename_i k
    exact h.push k.1
  · exact h
theorem fill8 (L : List Ent) : Ents8 (fillL L) := by
  have key : ∀ (L M : List Ent), Ents8 M → Ents8 (L.foldl stepL M) := fun L => by
    induction L with
    | nil => exact fun M h => h
    | cons x L ih => exact fun M h => ih _ h.step
  exact key L [] ents8_nil
/-- A call answers a table, and the document's list of what it has. -/
def GaveT (w : World) (M : List Ent) (e : Ending) (w' : World) : Prop :=
  ∃ z A c, e = .returned (.tuple #[.pointer (some ⟨z, 0, none⟩), .slice A M.length c]) ∧ TD w z M A c w'
end Go.Proofs.Ytgmeakcfiaopcaa

/- Package globe: Of. -/
namespace Go.Proofs.Ytgmeakcfiaopcaa
open Go.RowKit Go.Shelf
set_option linter.unusedVariables false
set_option linter.unusedSimpArgs false
attribute [local go_sem] Oper.semAt_some

def w64 (n : Int) : Int := IntKind.i64.wrap n
theorem w64_add (a b : Int) : IntKind.i64.wrap (w64 a + b) = w64 (a + b) := by
  unfold w64
  rw [IntKind.wrap_i64, IntKind.wrap_i64, IntKind.wrap_i64]
  omega
theorem w64_in {n : Int} (h : Fits n) : w64 n = n := IntWalk.i64_in _ h
/-- Between two entries that means looks at. -/
structure MRun (w : World) (pre : List Ent) (W : World) : Prop where
  loc : Holds W w.heap.size 3 #[.int .i64 (w64 (sumE entL pre))]
  off : Holds W (w.heap.size + 1) 3 #[.int .i64 (w64 (sumE entO pre))]
  below : Below w.heap.size w W
theorem MRun.turned {w : World} {pre : List Ent} {W W' : World} {row : Option Nat} (h : MRun w pre W) (hg : W.grownBy W' row) (hr : NoCells W row) (hb : ∀ k, row = some k → w.heap.size ≤ k) : MRun w pre W' :=
  ⟨h.loc.turned hg hr, h.off.turned hg hr, h.below.grown hg h.below.size hb⟩
theorem means_leaves {n : Nat} {w : World} {W : World} {tmps : Array Value} {u v : Int} {D : Nat} (hb : Below w.heap.size w W)
    (hD : w.heap.size ≤ D) (hDk : W.heap[D]? = some (.deferred (some []))) (t2 : tmps.getD 2 undef = .int .i64 u) (t3 : tmps.getD 3 undef = .int .i64 v) :
    LeavesInM Fence.wide n Try.prog Try.f53 tmps (fun e w' => e = .returned (.tuple #[.int .i64 u, .int .i64 v]) ∧ Below w.heap.size w w') [mark D] .returning W := by
  refine leaves_marks (I := fun W => Below w.heap.size w W) (lo := w.heap.size) (hi := D + 1) (fun W D' hD' hI hd => ?_) (fun W hI => ?_) [D] W ⟨by simp, fun E hE => by
    simp only [List.mem_cons, List.not_mem_nil, or_false] at hE
    subst hE
    exact ⟨hD, Nat.lt_succ_self _, hDk⟩⟩ hb
  · have hg := grownBy_putObj' W D' (.deferred none)
    exact hI.grown hg hI.size (fun k e => by cases e; exact hD')
  · refine ⟨.tuple #[.int .i64 u, .int .i64 v], ?_, rfl, hI⟩
    have t2' : tmps[2]?.getD undef = .int .i64 u := by simpa using t2
    have t3' : tmps[3]?.getD undef = .int .i64 v := by simpa using t3
    simp [results, Try.f53, go_sem, t2', t3']
/-- Sums of what can be don't go round. -/
theorem sums_fit {L : List Ent} (h8 : L.length ≤ 8) (hc : ∀ e ∈ L, CanE e) : Fits (sumE entL L) ∧ Fits (sumE entO L) := by
  obtain ⟨l1, l2⟩ := sumE_bd entL 0 1125899906842624 L (fun x hx => ⟨(hc x hx).l1, (hc x hx).l2⟩)
  obtain ⟨o1, o2⟩ := sumE_bd entO (-1125899906842624) 1125899906842624 L (fun x hx => ⟨(hc x hx).o1, (hc x hx).o2⟩)
  unfold Fits
  refine ⟨?_, ?_⟩ <;> omega
set_option maxRecDepth 100000 in
set_option maxHeartbeats 4000000 in
theorem means_any (w : World) (q : Option Addr) (L : List Ent) (h : Src w q L) (hL : L ≠ []) (hc : ∀ e ∈ L, CanE e) :
    Calls Try.prog 53 #[.pointer q] w fun e w' => e = .returned (.tuple #[.int .i64 (sumE entL L / (L.length : Int)), .int .i64 (sumE entO L / (L.length : Int))]) ∧ Below w.heap.size w w' := by
  refine (callsIn_wide (n := 4)).1 ?_
  refine callsIn_of_wp_marks Try.func53 rfl trivial ?_ rfl
  simp only [Try.ntmps53, List.size_toArray, List.length_cons, List.length_nil, Nat.reduceAdd, Nat.reduceSub, Array.replicate_succ, Array.replicate_zero, List.push_toArray, List.append_toArray, List.nil_append, List.cons_append]
  have HS := Lib.hid h
  have HF := Lib.hid (sums_fit h.le hc)
  have hn1 : 0 < L.length := List.length_pos_iff.2 hL
  have hn8 := h.le
  clear h hc hL
  gi_wp2_with (refine ⟨trivial, ?_⟩; gi_at_call 59; refine (callsIn_wide.2 (all_any _ q)).mono ?_; rintro e w' ⟨rfl, rfl⟩)
  obtain ⟨WR, hWR⟩ : ∃ WR, (((w.alloc (.cells #[.int .i64 0] 3)).alloc (.cells #[.int .i64 0] 3)).alloc (.cells #[.pointer q] 97)) = WR := ⟨_, rfl⟩
  have sR : WR.heap.size = w.heap.size + 3 := by rw [← hWR]; simp
  have b0 : MRun w [] WR := by
    rw [← hWR]
    refine ⟨((Holds.new w _ _).alloc _).alloc _, ?_, ((below_alloc w _).alloc (by simp) _).alloc (by simp; omega) _⟩
    have := (Holds.new (w.alloc (.cells #[.int .i64 0] 3)) 3 #[.int .i64 0]).alloc (.cells #[.pointer q] 97)
    rwa [size_alloc] at this
  have cR : WR.cell? ⟨w.heap.size + 1 + 1, 0, none⟩ = some (.pointer q) := by
    rw [← hWR]
    have := (Holds.new ((w.alloc (.cells #[.int .i64 0] 3)).alloc (.cells #[.int .i64 0] 3)) 97 #[.pointer q]).cell 0
    rwa [size_alloc, size_alloc] at this
  have hS := HS.out.below b0.below
  simp only [hWR]
  clear hWR
  refine range_boxed rfl (by omega) (gf := 66) (lb := #[.pointer (some ⟨w.heap.size + 1 + 1, 0, none⟩)]) rfl trivial (enters_of Try.func66 (by kernel_rfl) rfl)
    (all1_stops _ (by omega) (w.heap.size + 1 + 1) (w.heap.size + 3) q L WR hS cR (by omega)) kept_t (fun W l o o' hl => kept_b (by omega) W l o o' hl) (fun _ _ h => kept_below h) (Below.refl _ _) (fun _ => rfl)
    (fun (pre : List Ent) W => MRun w pre W)
    (fun c pre W => False)
    (fun s W W' row hs hg hr => hs.turned hg (fun k e => (hr k e).2) (fun k e => by have := (hr k e).1; omega))
    (fun c s W W' row hs hg hr => hs)
    b0 42 (fun x => #[.int .i64 x.1, .int .i64 x.2.1, .int .i64 x.2.2]) ?a₁ ?assign ?body ?done ?stop
  case assign =>
    intro l y b W K hb hK
    simp only [entA]
    have HB := Lib.hid hb
    clear hb
    gi_wp2
    simp only [HB.out]
    exact hK
  case body =>
    rintro l pre y g W hl ⟨rc, hrc⟩ hrn he hlen
    obtain ⟨a, b, c⟩ := y
    dsimp only at he ⊢
    have c0 := hrn.loc.cell 0
    have f0 := hrn.loc.soft 0
    have c1 := hrn.off.cell 0
    have f1 := hrn.off.soft 0
    have e0 := he.cell 0
    have e1 := he.cell 1
    have s1 := w64_add (sumE entL pre) a
    have s2 := w64_add (sumE entO pre) b
    have n1 : sumE entL pre + a = sumE entL (pre ++ [(a, b, c)]) := by rw [sumE_snoc]; rfl
    have n2 : sumE entO pre + b = sumE entO (pre ++ [(a, b, c)]) := by rw [sumE_snoc]; rfl
    rw [n1] at s1
    rw [n2] at s2
    obtain ⟨u, hu⟩ : ∃ u, w64 (sumE entL (pre ++ [(a, b, c)])) = u := ⟨_, rfl⟩
    obtain ⟨v, hv⟩ : ∃ u, w64 (sumE entO (pre ++ [(a, b, c)])) = u := ⟨_, rfl⟩
    have hch : Chg (fun k => k = w.heap.size ∨ k = w.heap.size + 1) W ((W.setCell ⟨w.heap.size, 0, none⟩ (.int .i64 u)).setCell ⟨w.heap.size + 1, 0, none⟩ (.int .i64 v)) :=
      (Chg.set W w.heap.size 0 _ (.inl rfl)).trans (Chg.set _ (w.heap.size + 1) 0 _ (.inr rfl)) (fun _ _ h => h)
    have HR := Lib.hid (show MRun w (pre ++ [(a, b, c)]) ((W.setCell ⟨w.heap.size, 0, none⟩ (.int .i64 u)).setCell ⟨w.heap.size + 1, 0, none⟩ (.int .i64 v)) from by
      refine ⟨?_, ?_, Below.chg hrn.below hch hrn.below.size (fun k hk => by omega)⟩
      · rw [hu]
        exact (hrn.loc.put 0 _).far (by omega) _
      · rw [hv]
        exact (hrn.off.far (by omega) _).put 0 _)
    have HK := Lib.hid (kept_chg (n := w.heap.size + 3) hch (fun k hk => by omega))
    have HO := Lib.hid (show KeepsFrom WR.heap.size W _ from (others_of_chg hch (fun k e => by
      rcases e with rfl | rfl
      · exact ⟨_, _, _, hrn.loc⟩
      · exact ⟨_, _, _, hrn.off⟩)).from _)
    rw [hu] at s1
    rw [hv] at s2
    clear hrn hch n1 n2 hu hv he
    gi_wp2
    exact ⟨HO.out, HK.out, HR.out⟩
  case done =>
    rintro D ys W hD rfl hrn hDk
    have c0 := hrn.loc.cell 0
    have c1 := hrn.off.cell 0
    rw [w64_in HF.out.1] at c0
    rw [w64_in HF.out.2] at c1
    have hB := hrn.below
    have hS := HS.out.below hB
    clear hrn
    have hlen := fun nq => src_len (W.drewN nq) q ys (hS.below (below_drewN (Below.refl _ _) nq))
    have hlen2 := fun (V : World) (hV : Below W.heap.size W V) => src_len V q ys (hS.below hV)
    have HC := Lib.hid c1
    have hfl := fun V => floor_yes (sumE entL ys) (ys.length : Int) V HF.out.1 (by omega) (by omega)
    have hfo := fun V => floor_yes (sumE entO ys) (ys.length : Int) V HF.out.2 (by omega) (by omega)
    obtain ⟨sl, hsl⟩ : ∃ s, sumE entL ys = s := ⟨_, rfl⟩
    obtain ⟨so, hso⟩ : ∃ s, sumE entO ys = s := ⟨_, rfl⟩
    obtain ⟨nn, hnn⟩ : ∃ s, (ys.length : Int) = s := ⟨_, rfl⟩
    have HE1 := Lib.hid (show sumE entL ys / (ys.length : Int) = sl / nn by rw [hsl, hnn])
    have HE2 := Lib.hid (show sumE entO ys / (ys.length : Int) = so / nn by rw [hso, hnn])
    rw [hsl] at c0
    rw [hso] at c1
    rw [hsl, hso] at HF
    simp only [hsl, hso, hnn] at hlen hlen2 hfl hfo
    clear hsl hso hnn hS
    have HDk := Lib.hid hDk
    have HB := Lib.hid hB
    clear hDk hB
    gi_wp2
    refine wpIn_wide.2 ?_
    go_quiet ((first | (go_at_call 44; refine Calls.quiet_of_same (hlen _)) | (go_at_call 60; refine Calls.quiet_of (hfl _))))
    gi_wp2
    have hbn : Below W.heap.size W (W.drewN nq) := below_drewN (Below.refl _ _) nq
    have c2 : (W.drewN nq).cell? ⟨w.heap.size + 1, 0, none⟩ = some (.int .i64 so) := by simpa using c1
    have HB2 := Lib.hid (HB.out.trans (hbn.mono HB.out.size))
    have HDk2 : Hid ((W.drewN nq).heap[D]? = some (.deferred (some []))) := Lib.hid (by simpa using HDk.out)
    have hlen3 := fun nr => hlen2 ((W.drewN nq).drewN nr) (below_drewN hbn nr)
    clear hbn hlen hlen2 hfl
    generalize W.drewN nq = W2 at *
    clear c0 c1 HB HDk HC
    refine wpIn_wide.2 ?_
    go_quiet ((first | (go_at_call 44; refine Calls.quiet_of_same (hlen3 _)) | (go_at_call 60; refine Calls.quiet_of (hfo _))))
    gi_wp2
    rw [HE1.out, HE2.out]
    exact means_leaves (below_drewN HB2.out _) (by omega) (by simpa using HDk2.out) rfl rfl
  case stop =>
    rintro D c pre W hD hpre hf hDk
    exact hf.elim

/-- A map from one clock's time to another's, as a value. -/
def mapV (l o a b h : Int) : Value := .agg #[.int .i64 l, .int .i64 o, .int .i64 a, .int .i64 b, .int .i64 h]
/-- What Of answers of entries. -/
def locV (L : List Ent) : Int := sumE entL L / (L.length : Int)
def offV (L : List Ent) : Int := sumE entO L / (L.length : Int)
noncomputable def mapOf (d : Int) (L : List Ent) : Value := mapV (locV L) (offV L) (ofV d L).1 (ofV d L).2 (mostL L)
theorem gave_trow {w w' : World} {L : List Ent} {e : Ending} (h : GaveEnts w L e w') : ∃ c, e = .returned (.slice (some ⟨w.heap.size, 0, none⟩) L.length c) ∧ TRow w' w.heap.size (some ⟨w.heap.size, 0, none⟩) L.length c L ∧ Below w.heap.size w w' := by
  obtain ⟨c, he, ho, hb⟩ := h
  exact ⟨c, he, TRow.of_own ho, hb⟩
theorem globe_none (d : Int) (w : World) (q : Option Addr) (h : Src w q []) :
    Calls Try.prog 50 #[.int .i64 d, .pointer q] w fun e w' => e = .returned (.tuple #[mapV 0 0 0 0 0, .bool false]) ∧ Below w.heap.size w w' := by
  have hlen := fun (V : World) (hV : Below w.heap.size w V) => src_len V q [] (h.below hV)
  have hl1 := hlen _ (below_alloc w (.cells #[.int .i64 0, .int .i64 0, .int .i64 0, .int .i64 0, .int .i64 0] 109))
  unfold mapV
  go_enter Try.func50, Try.ntmps50
  go_wp2_with (go_at_call 44; refine hl1.mono ?_; rintro e wx ⟨rfl, hwx⟩; subst wx)
  refine bodyPost_ret (results_row_tmp rfl _ _ w.heap.size 109 [.int .i64 0, .int .i64 0, .int .i64 0, .int .i64 0, .int .i64 0] _ _ rfl (Holds.new w _ _) Try.underlying109 rfl (by kernel_rfl) rfl) rfl ?_
  exact ⟨rfl, below_alloc _ _⟩
set_option maxHeartbeats 2000000 in
theorem globe_some (d : Int) (w : World) (q : Option Addr) (L : List Ent) (h : Src w q L) (hL : L ≠ []) (hc : ∀ e ∈ L, CanE e) :
    Calls Try.prog 50 #[.int .i64 d, .pointer q] w fun e w' => e = .returned (.tuple #[mapOf d L, .bool true]) ∧ Below w.heap.size w w' := by
  have HB := Lib.hid (Box.start w 109 #[.int .i64 0, .int .i64 0, .int .i64 0, .int .i64 0, .int .i64 0])
  have hS := fun (V : World) (hV : Below w.heap.size w V) => h.below hV
  have hl1 := src_len _ q L (hS _ HB.out.below)
  have hm1 := means_any _ q L (hS _ HB.out.below) hL hc
  have HS := Lib.hid hS
  have hn : 0 < L.length := List.length_pos_iff.2 hL
  have hne : ((L.length : Int) == 0) = false := by simpa using hL
  unfold mapOf mapV locV offV
  obtain ⟨sl, hsl⟩ : ∃ x, sumE entL L / (L.length : Int) = x := ⟨_, rfl⟩
  obtain ⟨so, hso⟩ : ∃ x, sumE entO L / (L.length : Int) = x := ⟨_, rfl⟩
  obtain ⟨ab, hab⟩ : ∃ x, ofV d L = x := ⟨_, rfl⟩
  obtain ⟨mo, hmo⟩ : ∃ x, mostL L = x := ⟨_, rfl⟩
  have HA := Lib.hid hab
  have HM := Lib.hid hmo
  simp only [hsl, hso, hab, hmo] at hm1 ⊢
  clear hsl hso hab hmo h hS hc hL
  go_enter Try.func50, Try.ntmps50
  go_wp2_with (first
    | (go_at_call 44; refine hl1.mono ?_; rintro e wx ⟨rfl, hwx⟩; subst wx)
    | (go_at_call 53; refine hm1.mono ?_; rintro e w2 ⟨rfl, hb2⟩; have HB2 := Lib.hid (HB.out.next hb2); have hli := list_any w2 q L (HS.out _ HB2.out.below); clear hb2)
    | (go_at_call 55; refine hli.mono ?_; intro e w3 hg3; obtain ⟨cc, he3, ht3, hb3⟩ := gave_trow hg3; subst e; have HB3 := Lib.hid (HB2.out.next hb3); have hso := slope_of d w3 _ _ _ _ L ht3; rw [HA.out] at hso; clear hb3 hg3 hli)
    | (go_at_call 54; refine hso.mono ?_; rintro e w4 ⟨rfl, hb4⟩; have HB4 := Lib.hid (HB3.out.next hb4); have hho := hops_any w4 q L (HS.out _ HB4.out.below); rw [HM.out] at hho; unfold slV; clear hb4 hso)
    | (go_at_call 56; refine hho.mono ?_; rintro e w5 ⟨rfl, hb5⟩; have HB5 := Lib.hid (HB4.out.next hb5); have c0 := HB5.out.holds.cell 0; have c1 := HB5.out.holds.cell 1; have c2 := HB5.out.holds.cell 2; have c3 := HB5.out.holds.cell 3; have c4 := HB5.out.holds.cell 4; have s0 := HB5.out.holds.soft 0; have s1 := HB5.out.holds.soft 1; have s2 := HB5.out.holds.soft 2; have s3 := HB5.out.holds.soft 3; have s4 := HB5.out.holds.soft 4; clear hb5 hho))
  refine bodyPost_ret (results_row_tmp rfl _ _ w.heap.size 109 [.int .i64 sl, .int .i64 so, .int .i64 ab.1, .int .i64 ab.2, .int .i64 mo] _ _ rfl (((((HB5.out.holds.put 0 _).put 1 _).put 2 _).put 3 _).put 4 _) Try.underlying109 rfl (by kernel_rfl) rfl) rfl ?_
  exact ⟨rfl, ((((HB5.out.below.setCell (by dsimp only; omega) _).setCell (by dsimp only; omega) _).setCell (by dsimp only; omega) _).setCell (by dsimp only; omega) _).setCell (by dsimp only; omega) _⟩
end Go.Proofs.Ytgmeakcfiaopcaa

/- Package globe: Global; the document's Raw, Global. -/
namespace Go.Proofs.Ytgmeakcfiaopcaa
open Go.RowKit
set_option linter.unusedVariables false
set_option linter.unusedSimpArgs false

theorem Box.cells5 {w0 w : World} {t : TypeId} {a b c d e : Value} (h : Box w0 t #[a, b, c, d, e] w) : w.cell? ⟨w0.heap.size, 0, none⟩ = some a ∧ w.cell? ⟨w0.heap.size, 1, none⟩ = some b ∧ w.cell? ⟨w0.heap.size, 2, none⟩ = some c ∧ w.cell? ⟨w0.heap.size, 3, none⟩ = some d ∧ w.cell? ⟨w0.heap.size, 4, none⟩ = some e ∧ Box w0 t #[a, b, c, d, e] w :=
  ⟨h.holds.cell 0, h.holds.cell 1, h.holds.cell 2, h.holds.cell 3, h.holds.cell 4, h⟩
/-- A map as Of answers it. -/
structure MapOk (c e l o a b : Int) : Prop where
  l1 : 0 ≤ l
  l2 : l ≤ 1125899906842624
  o1 : -1125899906842624 ≤ o
  o2 : o ≤ 1125899906842624
  sl : SlOk c e a b
theorem map_ok (d : Int) {L : List Ent} (h : Ents8 L) (hL : L ≠ []) : MapOk (2 * dV d) (1000 - dV d) (locV L) (offV L) (ofV d L).1 (ofV d L).2 := by
  have hn : 0 < (L.length : Int) := by
    have := List.length_pos_iff.2 hL
    omega
  obtain ⟨l1, l2⟩ := mean_bd hn (sumE_bd entL 0 1125899906842624 L (fun x hx => ⟨(h.can x hx).l1, (h.can x hx).l2⟩))
  obtain ⟨o1, o2⟩ := mean_bd hn (sumE_bd entO (-1125899906842624) 1125899906842624 L (fun x hx => ⟨(h.can x hx).o1, (h.can x hx).o2⟩))
  exact ⟨l1, l2, o1, o2, of_ok d L⟩
/-- The other clock's time, be it one that can be or not. -/
def rawV (l o a b t : Int) : Int := t + o + gainV a b (t - l)
section
variable {c e l o a b : Int}
theorem MapOk.gain (h : MapOk c e l o a b) {t : Int} (h0 : -1 ≤ t) (h1 : t ≤ 1125899906842625) : gainV a b (t - l) = a * (t - l) / b ∧ -1125899906842625 ≤ gainV a b (t - l) ∧ gainV a b (t - l) ≤ 1125899906842625 := by
  have l1 := h.l1
  have l2 := h.l2
  have e := h.sl.gain (t := t - l) (by omega) (by omega)
  obtain ⟨w1, w2⟩ := h.sl.within (t - l)
  rw [e]
  refine ⟨rfl, ?_, ?_⟩
  · split at w1 <;> omega
  · split at w2 <;> omega
theorem MapOk.fits (h : MapOk c e l o a b) : Fits a ∧ Fits b := by
  obtain ⟨w1, w2⟩ := h.sl.whole
  have := h.sl.b2
  have := h.sl.b1
  unfold Fits
  omega
/-- It never goes back, and no faster than the greatest slope lets. -/
theorem MapOk.on (h : MapOk c e l o a b) {t n : Int} (h0 : -1 ≤ t) (hn : 0 ≤ n) (h1 : t + n ≤ 1125899906842625) : rawV l o a b t ≤ rawV l o a b (t + n) ∧ rawV l o a b (t + n) ≤ rawV l o a b t + n + c * n / e + 1 := by
  obtain ⟨k1, k2⟩ := h.sl.on (t - l) hn
  unfold rawV
  rw [(h.gain (t := t) h0 (by omega)).1, (h.gain (t := t + n) (by omega) h1).1, show t + n - l = t - l + n by omega]
  omega
theorem MapOk.mono (h : MapOk c e l o a b) {s t : Int} (h0 : -1 ≤ s) (hst : s ≤ t) (h1 : t ≤ 1125899906842625) : rawV l o a b s ≤ rawV l o a b t := by
  have := (h.on h0 (show 0 ≤ t - s by omega) (by omega)).1
  rwa [show s + (t - s) = t by omega] at this
end
set_option maxHeartbeats 1000000 in
theorem reckon_any (c e l o a b h t : Int) (w : World) (hm : MapOk c e l o a b) (h0 : -1 ≤ t) (h1 : t ≤ 1125899906842625) :
    Calls Try.prog 58 #[mapV l o a b h, .int .i64 t] w fun e w' => e = .returned (.int .i64 (rawV l o a b t)) ∧ Below w.heap.size w w' := by
  have HB := Lib.hid (Box.start w 109 #[.int .i64 l, .int .i64 o, .int .i64 a, .int .i64 b, .int .i64 h])
  obtain ⟨_, g1, g2⟩ := hm.gain h0 h1
  obtain ⟨fa, fb⟩ := hm.fits
  obtain ⟨l1, l2, o1, o2, _⟩ := hm
  have hg := fun W => gain_any a b (t - l) W fa fb (by unfold Fits; omega)
  have e1 := IntWalk.i64_in (t + o) (by omega)
  have e2 := IntWalk.i64_in (t - l) (by omega)
  have e3 := IntWalk.i64_in (t + o + gainV a b (t - l)) (by omega)
  unfold rawV mapV
  obtain ⟨G, hG⟩ : ∃ G, gainV a b (t - l) = G := ⟨_, rfl⟩
  simp only [hG] at hg e3 ⊢
  clear hG g1 g2 fa fb l1 l2 o1 o2
  go_enter Try.func58, Try.ntmps58
  go_wp2
  refine region_turns (fun (w' : World) => w'.cell? ⟨w.heap.size, 0, none⟩ = some (.int .i64 l) ∧ w'.cell? ⟨w.heap.size, 1, none⟩ = some (.int .i64 o) ∧ w'.cell? ⟨w.heap.size, 2, none⟩ = some (.int .i64 a) ∧ w'.cell? ⟨w.heap.size, 3, none⟩ = some (.int .i64 b) ∧ w'.cell? ⟨w.heap.size, 4, none⟩ = some (.int .i64 h) ∧ Box w 109 #[.int .i64 l, .int .i64 o, .int .i64 a, .int .i64 b, .int .i64 h] w') (fun j => decide (13 ≤ j)) (by kernel_rfl) (HB.out.drew.cells5) (fun hS => ?_)
  refine Turns.take hS 0 _ rfl (by kernel_rfl) (by kernel_rfl) (by kernel_rfl) (by kernel_rfl) (fun _ _ _ h => h) (by rfl) (fun w' hS' => by (try dsimp only at hS'); go_split_ands; go_simp; (try with_reducible rfl)) ?_
  simp only [Act.put, List.getElem_toArray, List.getElem_cons_succ, List.getElem_cons_zero, List.setIfInBounds_toArray, List.set_cons_zero, List.set_cons_succ]
  refine Turns.take hS 1 _ rfl (by kernel_rfl) (by kernel_rfl) (by kernel_rfl) (by kernel_rfl) (fun _ _ _ h => h) (by rfl) (fun w' hS' => by (try dsimp only at hS'); go_split_ands; go_simp; (try with_reducible rfl)) ?_
  simp only [Act.put, List.getElem_toArray, List.getElem_cons_succ, List.getElem_cons_zero, List.setIfInBounds_toArray, List.set_cons_zero, List.set_cons_succ]
  refine Turns.take hS 2 _ rfl (by kernel_rfl) (by kernel_rfl) (by kernel_rfl) (by kernel_rfl) (fun _ _ _ h => h) (by rfl) (fun w' hS' => by (try dsimp only at hS'); go_split_ands; go_simp; (try with_reducible rfl)) ?_
  simp only [Act.put, List.getElem_toArray, List.getElem_cons_succ, List.getElem_cons_zero, List.setIfInBounds_toArray, List.set_cons_zero, List.set_cons_succ]
  refine Turns.take hS 3 _ rfl (by kernel_rfl) (by kernel_rfl) (by kernel_rfl) (by kernel_rfl) (fun _ _ _ h => h) (by rfl) (fun w' hS' => by (try dsimp only at hS'); go_split_ands; go_simp; (try with_reducible rfl)) ?_
  simp only [Act.put, List.getElem_toArray, List.getElem_cons_succ, List.getElem_cons_zero, List.setIfInBounds_toArray, List.set_cons_zero, List.set_cons_succ]
  refine Turns.take hS 4 _ rfl (by kernel_rfl) (by kernel_rfl) (by kernel_rfl) (by kernel_rfl) (fun _ _ _ h => h) (by rfl) (fun w' hS' => by (try dsimp only at hS'); go_split_ands; go_simp; (try with_reducible rfl)) ?_
  simp only [Act.put, List.getElem_toArray, List.getElem_cons_succ, List.getElem_cons_zero, List.setIfInBounds_toArray, List.set_cons_zero, List.set_cons_succ]
  refine Turns.take hS 5 _ rfl (by kernel_rfl) (by kernel_rfl) (by kernel_rfl) (by kernel_rfl) (fun _ _ _ h => h) (by rfl) (fun w' hS' => by (try dsimp only at hS'); go_split_ands; go_simp; (try with_reducible rfl)) ?_
  simp only [Act.put, List.getElem_toArray, List.getElem_cons_succ, List.getElem_cons_zero, List.setIfInBounds_toArray, List.set_cons_zero, List.set_cons_succ]
  refine Turns.take hS 6 _ rfl (by kernel_rfl) (by kernel_rfl) (by kernel_rfl) (by kernel_rfl) (fun _ _ _ h => h) (by rfl) (fun w' hS' => by (try dsimp only at hS'); go_split_ands; go_simp; (try with_reducible rfl)) ?_
  simp only [Act.put, List.getElem_toArray, List.getElem_cons_succ, List.getElem_cons_zero, List.setIfInBounds_toArray, List.set_cons_zero, List.set_cons_succ]
  refine Turns.take hS 7 _ rfl (by kernel_rfl) (by kernel_rfl) (by kernel_rfl) (by kernel_rfl) (fun _ _ _ h => h) (by rfl) (fun w' hS' => by (try dsimp only at hS'); go_split_ands; go_simp; (try with_reducible rfl)) ?_
  simp only [Act.put, List.getElem_toArray, List.getElem_cons_succ, List.getElem_cons_zero, List.setIfInBounds_toArray, List.set_cons_zero, List.set_cons_succ]
  refine Turns.take hS 8 _ rfl (by kernel_rfl) (by kernel_rfl) (by kernel_rfl) (by kernel_rfl) (fun _ _ _ h => h) (by rfl) (fun w' hS' => by (try dsimp only at hS'); go_split_ands; go_simp; (try with_reducible rfl)) ?_
  simp only [Act.put, List.getElem_toArray, List.getElem_cons_succ, List.getElem_cons_zero, List.setIfInBounds_toArray, List.set_cons_zero, List.set_cons_succ]
  refine Turns.take hS 9 _ rfl (by kernel_rfl) (by kernel_rfl) (by kernel_rfl) (by kernel_rfl) (fun _ _ _ h => h) (by rfl) (fun w' hS' => by (try dsimp only at hS'); go_split_ands; go_simp; (try with_reducible rfl)) ?_
  simp only [Act.put, List.getElem_toArray, List.getElem_cons_succ, List.getElem_cons_zero, List.setIfInBounds_toArray, List.set_cons_zero, List.set_cons_succ]
  refine Turns.next 10 rfl (by kernel_rfl) (by rfl) (fun K hK => ?_)
  go_simp
  go_at_call 65
  refine (hg _).mono ?_
  rintro e w2 ⟨rfl, hb⟩
  have HE := Lib.hid (hS.2.2.2.2.2.next hb)
  refine hK.out _ _ (show (fun (w' : World) => w'.cell? ⟨w.heap.size, 0, none⟩ = some (.int .i64 l) ∧ w'.cell? ⟨w.heap.size, 1, none⟩ = some (.int .i64 o) ∧ w'.cell? ⟨w.heap.size, 2, none⟩ = some (.int .i64 a) ∧ w'.cell? ⟨w.heap.size, 3, none⟩ = some (.int .i64 b) ∧ w'.cell? ⟨w.heap.size, 4, none⟩ = some (.int .i64 h) ∧ Box w 109 #[.int .i64 l, .int .i64 o, .int .i64 a, .int .i64 b, .int .i64 h] w') _ from HE.out.cells5) ?_
  clear hK K hS
  have hS := (show (fun (w' : World) => w'.cell? ⟨w.heap.size, 0, none⟩ = some (.int .i64 l) ∧ w'.cell? ⟨w.heap.size, 1, none⟩ = some (.int .i64 o) ∧ w'.cell? ⟨w.heap.size, 2, none⟩ = some (.int .i64 a) ∧ w'.cell? ⟨w.heap.size, 3, none⟩ = some (.int .i64 b) ∧ w'.cell? ⟨w.heap.size, 4, none⟩ = some (.int .i64 h) ∧ Box w 109 #[.int .i64 l, .int .i64 o, .int .i64 a, .int .i64 b, .int .i64 h] w') _ from HE.out.cells5)
  refine Turns.take hS 11 _ rfl (by kernel_rfl) (by kernel_rfl) (by kernel_rfl) (by kernel_rfl) (fun _ _ _ h => h) (by rfl) (fun w' hS' => by (try dsimp only at hS'); go_split_ands; go_simp; (try with_reducible rfl)) ?_
  simp only [Act.put, List.getElem_toArray, List.getElem_cons_succ, List.getElem_cons_zero, List.setIfInBounds_toArray, List.set_cons_zero, List.set_cons_succ]
  refine Turns.take hS 12 _ rfl (by kernel_rfl) (by kernel_rfl) (by kernel_rfl) (by kernel_rfl) (fun _ _ _ h => h) (by rfl) (fun w' hS' => by (try dsimp only at hS'); go_split_ands; go_simp; (try with_reducible rfl)) ?_
  simp only [Act.put, List.getElem_toArray, List.getElem_cons_succ, List.getElem_cons_zero, List.setIfInBounds_toArray, List.set_cons_zero, List.set_cons_succ]
  refine Turns.rest (late_done (by kernel_rfl)) ?_
  refine any_tail 13 (by rfl) (by kernel_rfl) ?_
  simp only [List.drop_succ_cons, List.drop_zero]
  clear hS
  go_wp2
  go_ret
  exact ⟨rfl, HE.out.below⟩
/-- Can a time be? -/
def CanT (t : Int) : Prop := 0 ≤ t ∧ t ≤ 1125899906842624
theorem time_yes (t : Int) (w : World) (h : CanT t) : Calls Try.prog 57 #[.int .i64 t] w fun e w' => e = .returned (.bool true) ∧ w' = w := by
  obtain ⟨h1, h2⟩ := h
  go_enter Try.func57, Try.ntmps57
  go_wp2
  go_ret
  exact ⟨rfl, rfl⟩
theorem time_no (t : Int) (w : World) (h : ¬ CanT t) : Calls Try.prog 57 #[.int .i64 t] w fun e w' => e = .returned (.bool false) ∧ w' = w := by
  by_cases h1 : 0 ≤ t
  · have h2 : decide (t ≤ 1125899906842624) = false := decide_eq_false (fun h2 => h ⟨h1, h2⟩)
    clear h
    go_enter Try.func57, Try.ntmps57
    go_wp2
    go_ret
    exact ⟨rfl, rfl⟩
  · have h2 : decide (0 ≤ t) = false := decide_eq_false h1
    clear h
    go_enter Try.func57, Try.ntmps57
    go_wp2
    go_ret
    exact ⟨rfl, rfl⟩
/-- What Global answers. -/
structure Glob (l o a b t g : Int) (ok : Bool) : Prop where
  is : (CanT t ∧ CanT (rawV l o a b t) ∧ g = rawV l o a b t ∧ ok = true) ∨ (¬ (CanT t ∧ CanT (rawV l o a b t)) ∧ g = 0 ∧ ok = false)
theorem glob_ex (l o a b t : Int) : ∃ g ok, Glob l o a b t g ok := by
  by_cases h : CanT t ∧ CanT (rawV l o a b t)
  · exact ⟨_, _, ⟨.inl ⟨h.1, h.2, rfl, rfl⟩⟩⟩
  · exact ⟨_, _, ⟨.inr ⟨h, rfl, rfl⟩⟩⟩
set_option maxHeartbeats 1000000 in
theorem global_any (c e l o a b h t g : Int) (ok : Bool) (w : World) (hm : MapOk c e l o a b) (hg : Glob l o a b t g ok) :
    Calls Try.prog 51 #[mapV l o a b h, .int .i64 t] w fun e w' => e = .returned (.tuple #[.int .i64 g, .bool ok]) ∧ Below w.heap.size w w' := by
  have HB := Lib.hid (Box.start w 109 #[.int .i64 l, .int .i64 o, .int .i64 a, .int .i64 b, .int .i64 h])
  have HM := Lib.hid hm
  obtain ⟨c0, c1, c2, c3, c4, _⟩ := HB.out.cells5
  obtain ⟨hg⟩ := hg
  by_cases h1 : CanT t
  · have ht := time_yes t (w.alloc (.cells #[.int .i64 l, .int .i64 o, .int .i64 a, .int .i64 b, .int .i64 h] 109)) h1
    have hre := fun W => reckon_any c e l o a b h t W HM.out (by have := h1.1; omega) (by have := h1.2; omega)
    unfold mapV at hre ⊢
    have HR := Lib.hid hre
    obtain ⟨R, hR⟩ : ∃ R, rawV l o a b t = R := ⟨_, rfl⟩
    rw [hR] at HR hg
    clear hre hm hR
    rcases hg with ⟨_, h2, rfl, rfl⟩ | ⟨h2, rfl, rfl⟩
    · have h2' := Lib.hid h2
      clear h2
      go_enter Try.func51, Try.ntmps51
      go_wp2_with (first
        | (go_at_call 57; (with_reducible refine ht.mono ?_); rintro e wx ⟨rfl, hwx⟩; subst wx)
        | (go_at_call 58; refine (HR.out _).mono ?_; rintro e w2 ⟨rfl, hb2⟩; have HB2 := Lib.hid (HB.out.next hb2); clear hb2)
        | (go_at_call 57; refine (time_yes g w2 h2'.out).mono ?_; rintro e wx ⟨rfl, hwx⟩; subst wx))
      go_ret2
      exact ⟨rfl, HB2.out.below⟩
    · have h2' := Lib.hid (show ¬ CanT R from fun k => h2 ⟨h1, k⟩)
      clear h2
      go_enter Try.func51, Try.ntmps51
      go_wp2_with (first
        | (go_at_call 57; (with_reducible refine ht.mono ?_); rintro e wx ⟨rfl, hwx⟩; subst wx)
        | (go_at_call 58; refine (HR.out _).mono ?_; rintro e w2 ⟨rfl, hb2⟩; have HB2 := Lib.hid (HB.out.next hb2); clear hb2)
        | (go_at_call 57; refine (time_no R w2 h2'.out).mono ?_; rintro e wx ⟨rfl, hwx⟩; subst wx))
      go_ret2
      exact ⟨rfl, HB2.out.below⟩
  · have ht := time_no t (w.alloc (.cells #[.int .i64 l, .int .i64 o, .int .i64 a, .int .i64 b, .int .i64 h] 109)) h1
    obtain ⟨rfl, rfl⟩ : g = 0 ∧ ok = false := by
      rcases hg with ⟨k, _⟩ | ⟨_, k⟩
      · exact absurd k h1
      · exact k
    clear hg hm
    unfold mapV
    go_enter Try.func51, Try.ntmps51
    go_wp2_with (go_at_call 57; (with_reducible refine ht.mono ?_); rintro e wx ⟨rfl, hwx⟩; subst wx)
    go_ret2
    exact ⟨rfl, HB.out.below⟩
end Go.Proofs.Ytgmeakcfiaopcaa

/- A node that floods a root's time: what its calls make of its state, in plain terms. -/
namespace Go.Proofs.Ytgmeakcfiaopcaa
open Go.RowKit
set_option linter.unusedVariables false
set_option linter.unusedSimpArgs false

/-- A node: whose time it goes by, its rules, what it knows of that one's clock, and the point. -/
structure FS where
  s : St
  need : Int
  drift : Int
  L : List Ent
  pl : Int
  pg : Int
  ph : Int
def timeB (t : Int) : Bool := decide (0 ≤ t ∧ t ≤ 1125899906842624)
theorem timeB_iff (t : Int) : timeB t = true ↔ CanT t := by unfold timeB CanT; exact decide_eq_true_iff
theorem timeB_no {t : Int} (h : timeB t = false) : ¬ CanT t := fun k => by rw [(timeB_iff t).2 k] at h; cases h
def minB (f : FS) : Bool := decide (f.s.root = f.s.me)
def synB (f : FS) : Bool := decide (f.s.root = f.s.me ∨ f.need ≤ (f.L.length : Int))
/-- Can a word be heard? -/
def canB (t h lo : Int) : Bool := decide (0 ≤ h ∧ h < 63) && timeB lo && timeB t
def laterB (L : List Ent) (a : Int) : Bool := match L.getLast? with
  | none => true
  | some x => decide (x.1 < a)
theorem later_iff (L : List Ent) (e : Ent) : laterB L e.1 = true ↔ Later L e := by
  unfold laterB Later
  cases L.getLast? with
  | none => simp
  | some x => simp
/-- What is known behind an entry. -/
def keepL (L : List Ent) (e : Ent) : List Ent := if laterB L e.1 = true then pushL L e else [e]
def FS.clear (f : FS) : FS := { f with L := [], pl := 0, pg := 0, ph := 0 }
def FS.at (f : FS) (s : St) : FS := { f with s := s }
/-- What is kept of a word. -/
def FS.keep (f : FS) (t h lo : Int) : FS := { f with L := keepL f.L (lo, t - lo, h + 1), pl := lo, pg := t, ph := h + 1 }
def moveF (f : FS) (v : Int) : FS := if v = 2 then f.clear else f
def hearFV (f : FS) (r x q t h lo : Int) : Int := if canB t h lo = true then hearV f.s r x q else 0
def hearFS (f : FS) (r x q t h lo : Int) : FS := if hearFV f r x q t h lo = 0 then f else (moveF (f.at (hearS f.s r x q)) (hearV f.s r x q)).keep t h lo
def beatF (f : FS) : FS := if beatB f.s = true then (f.at (beatS f.s)).clear else f.at (beatS f.s)
def bootF (f : FS) (x : Int) : FS := (f.at (bootS f.s x)).clear
def newF (me tmo ign need drift x : Int) : FS := ⟨newS me tmo ign x, need, drift, [], 0, 0, 0⟩
def fgoodB (me tmo ign need drift : Int) : Bool := goodB me tmo ign && decide (1 ≤ need ∧ need ≤ 8 ∧ 0 ≤ drift ∧ drift ≤ 10)
/-- What holds of every node. -/
structure FInv (f : FS) : Prop where
  s : Inv f.s
  need : 1 ≤ f.need ∧ f.need ≤ 8
  drift : 0 ≤ f.drift ∧ f.drift ≤ 10
  ents : Ents8 f.L
  pl : CanT f.pl
  pg : CanT f.pg
  ph : 0 ≤ f.ph ∧ f.ph ≤ 63
  own : f.s.root = f.s.me → f.L = []
  know : f.L ≠ [] → 0 ≤ f.s.root
theorem can_zero : CanT 0 := ⟨by decide, by decide⟩
section
variable {f : FS}
theorem canB_iff {t h lo : Int} : canB t h lo = true ↔ (0 ≤ h ∧ h < 63) ∧ CanT lo ∧ CanT t := by
  unfold canB
  simp only [Bool.and_eq_true, timeB_iff, decide_eq_true_eq, and_assoc]
theorem canE_of {t h lo : Int} (hc : canB t h lo = true) : CanE (lo, t - lo, h + 1) := by
  obtain ⟨⟨h0, h1⟩, ⟨l0, l1⟩, ⟨t0, t1⟩⟩ := canB_iff.1 hc
  refine ⟨l0, l1, ?_, ?_, ?_, ?_⟩ <;> dsimp only <;> omega
theorem keepL_ents {L : List Ent} {e : Ent} (h : Ents8 L) (hc : CanE e) : Ents8 (keepL L e) := by
  unfold keepL
  split
  · exact h.push hc
  · exact ⟨by simp, fun x hx => by
      simp only [List.mem_cons, List.not_mem_nil, or_false] at hx
      subst hx
      exact hc⟩
theorem pushL_min {L : List Ent} (h : L.length ≤ 8) (e : Ent) : (pushL L e).length = min (L.length + 1) 8 := by
  unfold pushL
  split <;> simp <;> omega
theorem keepL_ways {L : List Ent} (h : L.length ≤ 8) (e : Ent) : (keepL L e).length = min (L.length + 1) 8 ∨ (keepL L e).length = 1 := by
  unfold keepL
  split
  · exact .inl (pushL_min h e)
  · exact .inr rfl
theorem keepL_nil (e : Ent) : keepL [] e = [e] := rfl
/-- What an Add makes of the entries, and what is kept. -/
theorem keep_step {L : List Ent} {e : Ent} (hc : CanE e) : (laterB L e.1 = true ∧ Step L e (keepL L e) 0) ∨ (laterB L e.1 = false ∧ Step L e L 12 ∧ Step [] e (keepL L e) 0) := by
  unfold keepL
  cases h : laterB L e.1 with
  | true => exact .inl ⟨rfl, .inr (.inr ⟨hc, (later_iff L e).1 h, if_pos rfl, rfl⟩)⟩
  | false =>
    refine .inr ⟨rfl, .inr (.inl ⟨hc, fun k => ?_, rfl, rfl⟩), .inr (.inr ⟨hc, later_nil e, rfl, rfl⟩)⟩
    rw [(later_iff L e).2 k] at h
    cases h
theorem FInv.clear (h : FInv f) : FInv f.clear := ⟨h.s, h.need, h.drift, ents8_nil, can_zero, can_zero, ⟨by show (0 : Int) ≤ 0; omega, by show (0 : Int) ≤ 63; omega⟩, fun _ => rfl, fun k => absurd rfl k⟩
theorem FInv.new {me tmo ign need drift x : Int} (h : fgoodB me tmo ign need drift = true) (hx : F16 x) : FInv (newF me tmo ign need drift x) := by
  unfold fgoodB at h
  simp only [Bool.and_eq_true, decide_eq_true_eq] at h
  obtain ⟨h1, h2, h3, h4, h5⟩ := h
  exact ⟨Inv.new h1 hx, ⟨h2, h3⟩, ⟨h4, h5⟩, ents8_nil, can_zero, can_zero, ⟨by show (0 : Int) ≤ 0; omega, by show (0 : Int) ≤ 63; omega⟩, fun _ => rfl, fun k => absurd rfl k⟩
theorem FInv.boot (h : FInv f) {x : Int} (hx : F16 x) : FInv (bootF f x) :=
  ⟨h.s.reboot hx, h.need, h.drift, ents8_nil, can_zero, can_zero, ⟨by show (0 : Int) ≤ 0; omega, by show (0 : Int) ≤ 63; omega⟩, fun _ => rfl, fun k => absurd rfl k⟩
theorem beat_root {s : St} (h : beatB s = false) : (beatS s).root = s.root ∧ (beatS s).me = s.me := by
  unfold beatB at h
  have h' := of_decide_eq_false h
  unfold beatS
  split
  · exact ⟨rfl, rfl⟩
  · rw [if_pos (by omega)]
    exact ⟨rfl, rfl⟩
theorem beat_mine {s : St} (h : beatB s = true) : (beatS s).root = s.me ∧ (beatS s).me = s.me := by
  unfold beatB at h
  have h' := of_decide_eq_true h
  unfold beatS
  rw [if_neg h'.1, if_neg (by omega)]
  exact ⟨rfl, rfl⟩
theorem FInv.beat (h : FInv f) : FInv (beatF f) := by
  unfold beatF
  split
  · exact ⟨h.s.beat, h.need, h.drift, ents8_nil, can_zero, can_zero, ⟨by show (0 : Int) ≤ 0; omega, by show (0 : Int) ≤ 63; omega⟩, fun _ => rfl, fun k => absurd rfl k⟩
  · rename_i hb
    obtain ⟨e1, e2⟩ := beat_root (Bool.eq_false_iff.2 hb)
    refine ⟨h.s.beat, h.need, h.drift, h.ents, h.pl, h.pg, h.ph, fun k => h.own ?_, fun k => ?_⟩
    · have k' : (beatS f.s).root = (beatS f.s).me := k
      rw [e1, e2] at k'
      exact k'
    · show 0 ≤ (beatS f.s).root
      rw [e1]
      exact h.know k
theorem issue_root (s : St) : (issueS s).root = s.root ∧ (issueS s).me = s.me := by unfold issueS; split <;> exact ⟨rfl, rfl⟩
theorem FInv.issue (h : FInv f) : FInv (f.at (issueS f.s)) := by
  obtain ⟨e1, e2⟩ := issue_root f.s
  refine ⟨h.s.issue, h.need, h.drift, h.ents, h.pl, h.pg, h.ph, fun k => h.own ?_, fun k => ?_⟩
  · have k' : (issueS f.s).root = (issueS f.s).me := k
    rw [e1, e2] at k'
    exact k'
  · show 0 ≤ (issueS f.s).root
    rw [e1]
    exact h.know k
/-- A word is refused, and nothing changed, or it is taken, and the root is the word's. -/
theorem hearF_ways (h : FInv f) (r x q t hp lo : Int) (hx : F16 x) (hq : F16 q) : (hearFV f r x q t hp lo = 0 ∧ hearFS f r x q t hp lo = f) ∨
    (canB t hp lo = true ∧ (hearV f.s r x q = 1 ∨ hearV f.s r x q = 2) ∧ hearFV f r x q t hp lo = hearV f.s r x q ∧ hearFS f r x q t hp lo = (moveF (f.at (hearS f.s r x q)) (hearV f.s r x q)).keep t hp lo ∧ takeB f.s r x q = true ∧ 0 ≤ r ∧ r < f.s.me) := by
  unfold hearFS
  cases hc : canB t hp lo with
  | false =>
    have e : hearFV f r x q t hp lo = 0 := by unfold hearFV; rw [hc]; rfl
    exact .inl ⟨e, if_pos e⟩
  | true =>
    have e : hearFV f r x q t hp lo = hearV f.s r x q := by unfold hearFV; rw [hc]; rfl
    rw [e]
    rcases hear_ways r x q h.s with ⟨k1, k2⟩ | ⟨k1, k2, k3, k4, k5, k6, k7⟩
    · exact .inl ⟨k1, if_pos k1⟩
    · have hv : hearV f.s r x q = if movB f.s r x = true then 2 else 1 := by unfold hearV; rw [k7]; rfl
      have h12 : hearV f.s r x q = 1 ∨ hearV f.s r x q = 2 := by
        rw [hv]
        split
        · exact .inr rfl
        · exact .inl rfl
      exact .inr ⟨rfl, h12, rfl, if_neg (by omega), k7, k4, k5⟩
theorem hear_took {s : St} {r x q : Int} (h : takeB s r x q = true) : (hearS s r x q).root = r ∧ (hearS s r x q).me = s.me ∧ (hearS s r x q).f r = some (x, q) := by
  unfold hearS
  rw [h]
  exact ⟨rfl, rfl, if_pos rfl⟩
theorem FInv.hear (h : FInv f) (r x q t hp lo : Int) (hx : F16 x) (hq : F16 q) : FInv (hearFS f r x q t hp lo) := by
  rcases hearF_ways h r x q t hp lo hx hq with ⟨-, e⟩ | ⟨hc, -, -, e, ht, hr0, hr1⟩
  · rw [e]
    exact h
  · rw [e]
    obtain ⟨e1, e2, -⟩ := hear_took ht
    obtain ⟨⟨h0, h1⟩, hl, hg⟩ := canB_iff.1 hc
    have hm : ∀ L, Ents8 L → FInv ((({ f.at (hearS f.s r x q) with L := L } : FS)).keep t hp lo) := fun L hL =>
      ⟨h.s.hear hx hq, h.need, h.drift, keepL_ents hL (canE_of hc), hl, hg, ⟨by show 0 ≤ hp + 1; omega, by show hp + 1 ≤ 63; omega⟩, fun k => by
        have k' : (hearS f.s r x q).root = (hearS f.s r x q).me := k
        omega, fun _ => by show 0 ≤ (hearS f.s r x q).root; omega⟩
    unfold moveF
    split
    · exact hm [] ents8_nil
    · exact hm f.L h.ents
end
/-- A word: From, Root, Boot, Seq, Hops, Time. -/
abbrev W6 := Int × Int × Int × Int × Int × Int
def wordV (W : W6) : Value := .agg #[.int .i64 W.1, .int .i64 W.2.1, .int .u16 W.2.2.1, .int .u16 W.2.2.2.1, .int .i64 W.2.2.2.2.1, .int .i64 W.2.2.2.2.2]
def noW : W6 := (0, 0, 0, 0, 0, 0)
/-- What it says, and what becomes of it. -/
def Says (f : FS) (lo : Int) (W : W6) (ok : Bool) (f' : FS) : Prop :=
  (timeB lo = false ∧ W = noW ∧ ok = false ∧ f' = f) ∨
  (timeB lo = true ∧ minB f = true ∧ W = (f.s.me, f.s.root, f.s.boot, nextV f.s.seq, 0, lo) ∧ ok = true ∧ f' = f.at (issueS f.s)) ∨
  (timeB lo = true ∧ minB f = false ∧ synB f = false ∧ W = noW ∧ ok = false ∧ f' = f) ∨
  (timeB lo = true ∧ minB f = false ∧ synB f = true ∧ timeB (f.pg + (lo - f.pl)) = true ∧ W = (f.s.me, f.s.root, (saidV f.s).1, (saidV f.s).2, f.ph, f.pg + (lo - f.pl)) ∧ ok = true ∧ f' = f) ∨
  (timeB lo = true ∧ minB f = false ∧ synB f = true ∧ timeB (f.pg + (lo - f.pl)) = false ∧ W = noW ∧ ok = false ∧ f' = f)
theorem says_is (f : FS) (lo : Int) : ∃ W ok f', Says f lo W ok f' := by
  cases h1 : timeB lo with
  | false => exact ⟨_, _, _, .inl ⟨h1, rfl, rfl, rfl⟩⟩
  | true =>
    cases h2 : minB f with
    | true => exact ⟨_, _, _, .inr (.inl ⟨h1, h2, rfl, rfl, rfl⟩)⟩
    | false =>
      cases h3 : synB f with
      | false => exact ⟨_, _, _, .inr (.inr (.inl ⟨h1, h2, h3, rfl, rfl, rfl⟩))⟩
      | true =>
        cases h4 : timeB (f.pg + (lo - f.pl)) with
        | true => exact ⟨_, _, _, .inr (.inr (.inr (.inl ⟨h1, h2, h3, h4, rfl, rfl, rfl⟩)))⟩
        | false => exact ⟨_, _, _, .inr (.inr (.inr (.inr ⟨h1, h2, h3, h4, rfl, rfl, rfl⟩)))⟩
theorem FInv.says {f f' : FS} {lo : Int} {W : W6} {ok : Bool} (h : FInv f) (hs : Says f lo W ok f') : FInv f' := by
  rcases hs with ⟨_, _, _, rfl⟩ | ⟨_, _, _, _, rfl⟩ | ⟨_, _, _, _, _, rfl⟩ | ⟨_, _, _, _, _, _, rfl⟩ | ⟨_, _, _, _, _, _, rfl⟩
  · exact h
  · exact h.issue
  · exact h
  · exact h
  · exact h
/-- The root's time, over how many hops, and the error. -/
def Tells (f : FS) (lo g hp v : Int) : Prop :=
  (synB f = false ∧ g = 0 ∧ hp = 0 ∧ v = 9) ∨ (synB f = true ∧ timeB lo = false ∧ g = 0 ∧ hp = 0 ∧ v = 8) ∨ (synB f = true ∧ timeB lo = true ∧ minB f = true ∧ g = lo ∧ hp = 0 ∧ v = 0) ∨
  (synB f = true ∧ timeB lo = true ∧ minB f = false ∧ ∃ G ok, Glob (locV f.L) (offV f.L) (ofV f.drift f.L).1 (ofV f.drift f.L).2 lo G ok ∧ (ok = true ∧ g = G ∧ hp = mostL f.L ∧ v = 0 ∨ ok = false ∧ g = 0 ∧ hp = 0 ∧ v = 8))
theorem tells_is (f : FS) (lo : Int) : ∃ g hp v, Tells f lo g hp v := by
  cases h3 : synB f with
  | false => exact ⟨_, _, _, .inl ⟨h3, rfl, rfl, rfl⟩⟩
  | true =>
    cases h1 : timeB lo with
    | false => exact ⟨_, _, _, .inr (.inl ⟨h3, h1, rfl, rfl, rfl⟩)⟩
    | true =>
      cases h2 : minB f with
      | true => exact ⟨_, _, _, .inr (.inr (.inl ⟨h3, h1, h2, rfl, rfl, rfl⟩))⟩
      | false =>
        obtain ⟨G, ok, hg⟩ := glob_ex (locV f.L) (offV f.L) (ofV f.drift f.L).1 (ofV f.drift f.L).2 lo
        cases ok with
        | true => exact ⟨_, _, _, .inr (.inr (.inr ⟨h3, h1, h2, G, true, hg, .inl ⟨rfl, rfl, rfl, rfl⟩⟩))⟩
        | false => exact ⟨_, _, _, .inr (.inr (.inr ⟨h3, h1, h2, G, false, hg, .inr ⟨rfl, rfl, rfl, rfl⟩⟩))⟩
/-- What is synced, and isn't the root, knows something. -/
theorem syn_some {f : FS} (h : FInv f) (h1 : minB f = false) (h2 : synB f = true) : f.L ≠ [] := by
  have k1 := of_decide_eq_false h1
  have k2 := of_decide_eq_true h2
  have := h.need
  intro e
  rw [e] at k2
  simp only [List.length_nil] at k2
  omega
end Go.Proofs.Ytgmeakcfiaopcaa

/- Whatever picks numbers in package frame: what is asked of it. -/
namespace Go.Proofs.Ytgmeakcfiaopcaa
open Go.RowKit

/-- What picks: a function value over what it captured; its state, what it tells and what it makes of the state. -/
structure Picks (S : Type) where
  fn : FuncId
  caps : Array Value
  base : Nat
  inv : S → World → Prop
  next : S → Int → Int → S
  tells : S → Int → Int → Int
  good : S → Int → Int → Prop

/-- The types of frames' own variables. -/
def frameType (t : TypeId) : Prop := t = 48 ∨ t = 116 ∨ t = 118 ∨ t = 120 ∨ t = 122 ∨ t = 124

/-- No byte lies among these values. -/
def notByte : Value → Bool
  | .int .u8 _ => false
  | _ => true
def noByte (cs : Array Value) : Prop := ∀ (i : Nat) v, cs[i]? = some v → notByte v = true
theorem noByte_of {cs : Array Value} (h : cs.toList.all notByte = true) : noByte cs := fun i v hv => by
  refine List.all_eq_true.1 h v ?_
  rw [Array.mem_toList_iff]
  exact Array.mem_of_getElem? hv
theorem noByte.put {cs : Array Value} (h : noByte cs) (i : Nat) {u : Value} (hu : notByte u = true) : noByte (cs.setIfInBounds i u) := fun j v hv => by
  rw [Array.getElem?_setIfInBounds] at hv
  split at hv
  · split at hv
    · simp only [Option.some.injEq] at hv
      rw [← hv]
      exact hu
    · cases hv
  · exact h j v hv
theorem noByte.int {cs : Array Value} (h : noByte cs) (i : Nat) (z : Int) : cs[i]? ≠ some (.int .u8 z) := fun e => by
  have := h i _ e
  cases this

/-- A call keeps a frame's own variable. -/
def KeepsFrames (w w' : World) : Prop := w.heap.size ≤ w'.heap.size ∧ ∀ g t cs, frameType t → Holds w g t cs → Holds w' g t cs
theorem KeepsFrames.trans {a b c : World} (h : KeepsFrames a b) (k : KeepsFrames b c) : KeepsFrames a c := ⟨Nat.le_trans h.1 k.1, fun g t cs ht hh => k.2 g t cs ht (h.2 g t cs ht hh)⟩

structure Picks.Right {S : Type} (p : Picks S) : Prop where
  enters : Enters Try.prog p.fn
  call : ∀ s k n w, p.inv s w → p.good s k n → Calls Try.prog p.fn (#[.int .i64 k, .int .i64 n] ++ p.caps) w fun e w' => e = .returned (.int .i64 (p.tells s k n)) ∧ p.inv (p.next s k n) w' ∧ KeepsFrames w w'
  drew : ∀ s w, p.inv s w → p.inv s w.drew
  alloc : ∀ s w o, p.inv s w → p.inv s (w.alloc o)
  size : ∀ s w, p.inv s w → p.base ≤ w.heap.size
  store : ∀ s w g i u t cs, p.inv s w → p.base ≤ g → frameType t → noByte cs → Holds w g t cs → p.inv s (w.setCell ⟨g, i, none⟩ u)

/-- One pick: from a state to the next, a number asked and one told. -/
def Pick {S : Type} (p : Picks S) (s : S) (k n b : Int) (s' : S) : Prop := p.good s k n ∧ p.tells s k n = b ∧ p.next s k n = s'
theorem Pick.mk {S : Type} {p : Picks S} {s : S} {k n : Int} (h : p.good s k n) : Pick p s k n (p.tells s k n) (p.next s k n) := ⟨h, rfl, rfl⟩

/-- While a frame's numbers are picked: its own variable is the block behind all that was. -/
structure Mid {S : Type} (p : Picks S) (w0 : World) (T : TypeId) (cs : Array Value) (s : S) (w : World) : Prop where
  inv : p.inv s w
  type : frameType T
  holds : Holds w w0.heap.size T cs
  keeps : KeepsFrames w0 w
  old : p.base ≤ w0.heap.size
  plain : noByte cs

section
variable {S : Type} {p : Picks S} {w0 w : World} {T : TypeId} {cs : Array Value} {s s' : S} {k n b : Int}
theorem Mid.start (hp : p.Right) (ht : frameType T) (hb : noByte cs) (h : p.inv s w0) : Mid p w0 T cs s (w0.alloc (.cells cs T)) :=
  ⟨hp.alloc _ _ _ h, ht, Holds.new _ _ _, ⟨by simp, fun _ _ _ _ h => h.alloc _⟩, hp.size _ _ h, hb⟩
theorem Mid.drew (hp : p.Right) (h : Mid p w0 T cs s w) : Mid p w0 T cs s w.drew := ⟨hp.drew _ _ h.inv, h.type, h.holds, h.keeps, h.old, h.plain⟩
theorem Mid.put (hp : p.Right) (h : Mid p w0 T cs s w) (i : Nat) (u : Value) (hu : notByte u = true := by rfl) : Mid p w0 T (cs.setIfInBounds i u) s (w.setCell ⟨w0.heap.size, i, none⟩ u) :=
  ⟨hp.store _ _ _ _ _ _ _ h.inv h.old h.type h.plain h.holds, h.type, h.holds.put i u, ⟨by simpa [World.setCell] using h.keeps.1, fun g t c ht hh =>
    (h.keeps.2 g t c ht hh).far (by have := hh.lt; omega) u⟩, h.old, h.plain.put i hu⟩
theorem Mid.pick (hp : p.Right) (h : Mid p w0 T cs s w) (hk : Pick p s k n b s') :
    Calls Try.prog p.fn (#[.int .i64 k, .int .i64 n] ++ p.caps) w fun e w' => e = .returned (.int .i64 b) ∧ Mid p w0 T cs s' w' := by
  obtain ⟨h1, rfl, rfl⟩ := hk
  exact (hp.call s k n w h.inv h1).mono fun e w' ⟨he, hi, hf⟩ => ⟨he, hi, h.type, hf.2 _ _ _ h.type h.holds, h.keeps.trans hf, h.old, h.plain⟩
theorem Mid.mark (hp : p.Right) (h : Mid p w0 T cs s w) (hk : Pick p s 3 n b s') (hn : F16 n) (hb : F16 b) :
    Calls Try.prog 52 #[.func (.func p.fn) #[] p.caps, .int .u16 n] w fun e w' => e = .returned (.int .u16 b) ∧ Mid p w0 T cs s' w' := by
  have hc := h.pick hp hk
  obtain ⟨n1, n2⟩ := hn
  obtain ⟨b1, b2⟩ := hb
  have en : ∀ (args : Array Value) (w : World), (callFunc p.fn args).run Try.prog w = .ok (.enter p.fn args) w := hp.enters
  clear h hk hp
  go_enter Try.func52, Try.ntmps52
  go_wp2_with (go_at_fn p.fn; refine hc.mono ?_; rintro e w1 ⟨rfl, hm1⟩)
  go_ret
  exact ⟨rfl, hm1⟩
/-- A frame was answered, and what picked its numbers stands at a state. -/
def Picked (v : Value) (p : Picks S) (s : S) (w : World) (e : Ending) (w' : World) : Prop := e = .returned v ∧ p.inv s w' ∧ KeepsFrames w w'
theorem Mid.done (h : Mid p w0 T cs s w) (v : Value) : Picked v p s w0 (.returned v) w := ⟨rfl, h.inv, h.keeps⟩
end
end Go.Proofs.Ytgmeakcfiaopcaa

/- Package frame's Good: what picks its numbers (shared: Good of each kind is told by its own picked_..). -/
namespace Go.Proofs.Ytgmeakcfiaopcaa
open Go.RowKit
set_option linter.unusedVariables false
set_option linter.unusedSimpArgs false

/-- The greatest number that a field may be. -/
def wmost (k : Int) : Int := if k = 1 then 63 else if k = 2 then 63 else if k = 3 then 65535 else if k = 4 then 1125899906842624 else 6
def wokF (k n : Int) : Bool := decide (0 ≤ n) && decide (n ≤ wmost k)
def WKind (k : Int) : Prop := k = 0 ∨ k = 1 ∨ k = 2 ∨ k = 3 ∨ k = 4
theorem wmost_any (k : Int) (w : World) (hk : WKind k) : Calls Try.prog 49 #[.int .i64 k] w fun e w' => e = .returned (.int .i64 (wmost k)) ∧ w = w' := by
  rcases hk with rfl | rfl | rfl | rfl | rfl
  all_goals
    go_enter Try.func49, Try.ntmps49
    go_wp2
    go_ret
    exact ⟨rfl, rfl⟩
/-- What Good's function value leaves of its variable. -/
theorem wpick_any (g : Nat) (k n : Int) (s : Bool) (w : World) (hk : WKind k) (hn : Fits n) (h : Holds w g 4 #[.bool s]) :
    Calls Try.prog 48 #[.int .i64 k, .int .i64 n, .pointer (some ⟨g, 0, none⟩)] w fun e w' => e = .returned (.int .i64 n) ∧ w' = w.setCell ⟨g, 0, none⟩ (.bool (s && wokF k n)) := by
  have c0 := h.cell 0
  have f0 := h.soft 0
  obtain ⟨n1, n2⟩ := hn
  have hm := wmost_any k w hk
  obtain ⟨M, hM⟩ : ∃ M, wmost k = M := ⟨_, rfl⟩
  rw [hM] at hm
  unfold wokF
  simp only [hM]
  clear h hM hk
  cases s
  · go_enter Try.func48, Try.ntmps48
    go_wp2
    go_ret
    exact ⟨rfl, rfl⟩
  by_cases h0 : 0 ≤ n
  · by_cases h1 : n ≤ M
    · have e0 : decide (0 ≤ n) = true := by simpa using h0
      have e1 : decide (n ≤ M) = true := by simpa using h1
      go_enter Try.func48, Try.ntmps48
      go_wp2_with (go_at_call 49; refine hm.mono ?_; rintro e w' ⟨rfl, rfl⟩)
      go_ret
      simp [h0, h1]
    · have e0 : decide (0 ≤ n) = true := by simpa using h0
      have e1 : decide (n ≤ M) = false := by simpa using h1
      go_enter Try.func48, Try.ntmps48
      go_wp2_with (go_at_call 49; refine hm.mono ?_; rintro e w' ⟨rfl, rfl⟩)
      go_ret
      simp [h0, e1]
  · have e0 : decide (0 ≤ n) = false := by simpa using h0
    go_enter Try.func48, Try.ntmps48
    go_wp2
    go_ret
    simp [h0]
/-- A variable of the call's own that holds one value. -/
structure WOne (w0 : World) (g : Nat) (t : TypeId) (v : Value) (w : World) : Prop where
  below : Below w0.heap.size w0 w
  new : w0.heap.size ≤ g
  holds : Holds w g t #[v]
section
variable {w0 w : World} {g : Nat} {t : TypeId} {v : Value}
theorem WOne.drew (h : WOne w0 g t v w) : WOne w0 g t v w.drew := ⟨h.below.drew, h.new, h.holds⟩
theorem WOne.alloc (h : WOne w0 g t v w) (o : Obj) : WOne w0 g t v (w.alloc o) := ⟨h.below.alloc h.below.size o, h.new, h.holds.alloc o⟩
theorem WOne.put (h : WOne w0 g t v w) (u : Value) : WOne w0 g t u (w.setCell ⟨g, 0, none⟩ u) := ⟨h.below.setCell (p := ⟨g, 0, none⟩) h.new u, h.new, by simpa using h.holds.put 0 u⟩
theorem WOne.far (h : WOne w0 g t v w) {b i : Nat} {t' : TypeId} {cs : Array Value} (hb : w0.heap.size ≤ b) (ho : Holds w b t' cs) (hne : t ≠ t') (u : Value) : WOne w0 g t v (w.setCell ⟨b, i, none⟩ u) :=
  ⟨h.below.setCell (p := ⟨b, i, none⟩) hb u, h.new, h.holds.far (h.holds.apart ho hne) u⟩
theorem WOne.start (w0 : World) (t : TypeId) (v : Value) : WOne w0 w0.heap.size t v (w0.alloc (.cells #[v] t)) := ⟨(Below.refl _ _).alloc (Nat.le_refl _) _, Nat.le_refl _, Holds.new _ _ _⟩
theorem wkeeps_put (h : Holds w g t #[v]) (ht : ¬ frameType t) (u : Value) : KeepsFrames w (w.setCell ⟨g, 0, none⟩ u) :=
  ⟨by simp [World.setCell], fun g' t' cs hf hh => hh.far (hh.apart h (fun e => ht (by rw [← e]; exact hf))) u⟩
end
theorem wbool_plain : ¬ frameType 4 := by unfold frameType; decide
theorem wne_frame {t t' : TypeId} (h : ¬ frameType t) (h' : frameType t') : t ≠ t' := fun e => h (by rw [e]; exact h')
/-- Good's function value. -/
def wgoodP (w0 : World) (g : Nat) : Picks Bool where
  fn := 48
  caps := #[.pointer (some ⟨g, 0, none⟩)]
  base := w0.heap.size
  inv s w := WOne w0 g 4 (.bool s) w
  next s k n := s && wokF k n
  tells _ _ n := n
  good _ k n := WKind k ∧ Fits n
theorem wgoodP_right (w0 : World) (g : Nat) : (wgoodP w0 g).Right where
  enters := enters_of Try.func48 (by kernel_rfl) rfl
  call s k n w h hg := (wpick_any g k n s w hg.1 hg.2 h.holds).mono fun e w' ⟨he, hw⟩ => ⟨he, by rw [hw]; exact h.put _, by rw [hw]; exact wkeeps_put h.holds wbool_plain _⟩
  drew s w h := h.drew
  alloc s w o h := h.alloc o
  size s w h := h.below.size
  store s w b i u t cs h hb ht _ hh := h.far hb hh (wne_frame wbool_plain ht) u
theorem wpick {w0 : World} {g : Nat} (s : Bool) (k n : Int) (hk : WKind k) (hn : Fits n) : Pick (wgoodP w0 g) s k n n (s && wokF k n) := ⟨⟨hk, hn⟩, rfl, rfl⟩
theorem fit16 {n : Int} (h : F16 n) : Fits n := by
  obtain ⟨h0, h1⟩ := h
  exact ⟨by omega, by omega⟩
/-- Good, where picked leaves the variable at what the frame's numbers say. -/
theorem wgood_of {T : TypeId} {v : Value} {G : Bool} (w : World) (hne : ∀ W : World, (binOp .neq 102 (.iface T v) .nilIface).run Try.prog W = .ok (.bool true) W)
    (hp : Calls Try.prog 47 #[.iface T v, .func (.func (wgoodP w w.heap.size).fn) #[] (wgoodP w w.heap.size).caps] (w.alloc (.cells #[.bool true] 4)) (Picked (.iface T v) (wgoodP w w.heap.size) G (w.alloc (.cells #[.bool true] 4)))) :
    Calls Try.prog 41 #[.iface T v] w fun e w' => e = .returned (.bool G) ∧ Below w.heap.size w w' := by
  cases G
  all_goals
    go_enter Try.func41, Try.ntmps41
    go_wp2_with (go_at_call 47; refine hp.mono ?_; rintro e w1 ⟨rfl, hi, hk⟩; have c0 := hi.holds.cell 0)
    go_ret
    exact ⟨rfl, hi.below⟩
end Go.Proofs.Ytgmeakcfiaopcaa

/- What picked answers of a frame. (Written by wip/tools/mkframe.py.) -/
namespace Go.Proofs.Ytgmeakcfiaopcaa
open Go.RowKit
set_option linter.unusedSimpArgs false
attribute [local go_sem ↓] Go.wp_at_zero Go.wp_at_succ
theorem is_sync (W : World) (v : Value) : (Instr.typeAssert (.iface 48 v) 102 48 true).run Try.prog W = .ok (.tuple #[v, .bool true]) W := by kernel_rfl
set_option maxHeartbeats 4000000 in
set_option maxRecDepth 100000 in
theorem picked_sync {S : Type} (p : Picks S) (hp : p.Right) (s0 s1 s2 s3 s4 s5 s6 s7 : S) (a0 a1 a2 a3 a4 a5 b0 b1 b2 b3 b4 b5 bk : Int) (w : World) (h : p.inv s0 w) (q : Pick p s0 0 1 bk s1) (q0 : Pick p s1 1 a0 b0 s2) (q1 : Pick p s2 1 a1 b1 s3) (q2 : Pick p s3 3 a2 b2 s4) (u2 : F16 a2) (v2 : F16 b2) (q3 : Pick p s4 3 a3 b3 s5) (u3 : F16 a3) (v3 : F16 b3) (q4 : Pick p s5 2 a4 b4 s6) (q5 : Pick p s6 4 a5 b5 s7) :
    Calls Try.prog 47 #[.iface 48 (.agg #[.int .i64 a0, .int .i64 a1, .int .u16 a2, .int .u16 a3, .int .i64 a4, .int .i64 a5]), .func (.func p.fn) #[] p.caps] w (Picked (.iface 48 (.agg #[.int .i64 b0, .int .i64 b1, .int .u16 b2, .int .u16 b3, .int .i64 b4, .int .i64 b5])) p s7 w) := by
  have en : ∀ (args : Array Value) (w : World), (callFunc p.fn args).run Try.prog w = .ok (.enter p.fn args) w := hp.enters
  have t0 := is_sync
  have hm := Mid.start (T := 48) (cs := #[.int .i64 a0, .int .i64 a1, .int .u16 a2, .int .u16 a3, .int .i64 a4, .int .i64 a5]) hp (by unfold frameType; decide) (noByte_of rfl) h
  have HP := Lib.hid hp
  clear hp h
  go_enter Try.func47, Try.ntmps47
  go_wp2_with (go_at_fn p.fn; (with_reducible refine (hm.pick HP.out q).mono ?_); rintro e w1 ⟨rfl, m1⟩)
  have d0 := m1.drew HP.out
  refine region_turns (fun w' => w'.cell? ⟨w.heap.size, 0, none⟩ = some (.int .i64 a0) ∧ w'.cell? ⟨w.heap.size, 1, none⟩ = some (.int .i64 a1)) (fun j => decide (9 ≤ j)) (by kernel_rfl) ⟨d0.holds.cell 0, d0.holds.cell 1⟩ (fun hS => ?_)
  refine Turns.take hS 0 (.func (.func p.fn) #[] p.caps) rfl (by kernel_rfl) (by kernel_rfl) (by kernel_rfl) (by kernel_rfl) (fun _ _ _ h => h) (by rfl) (fun w' hS' => by go_simp) ?_
  simp only [Act.put, List.getElem_toArray, List.getElem_cons_succ, List.getElem_cons_zero, List.setIfInBounds_toArray, List.set_cons_zero, List.set_cons_succ]
  refine Turns.take hS 1 (.pointer (some ⟨w.heap.size, 0, none⟩)) rfl (by kernel_rfl) (by kernel_rfl) (by kernel_rfl) (by kernel_rfl) (fun _ _ _ h => h) (by rfl) (fun w' hS' => by go_simp) ?_
  simp only [Act.put, List.getElem_toArray, List.getElem_cons_succ, List.getElem_cons_zero, List.setIfInBounds_toArray, List.set_cons_zero, List.set_cons_succ]
  refine Turns.take hS 2 (.int .i64 a0) rfl (by kernel_rfl) (by kernel_rfl) (by kernel_rfl) (by kernel_rfl) (fun _ _ _ h => h) (by rfl) (fun w' hS' => by (try dsimp only at hS'); go_split_ands; go_simp) ?_
  simp only [Act.put, List.getElem_toArray, List.getElem_cons_succ, List.getElem_cons_zero, List.setIfInBounds_toArray, List.set_cons_zero, List.set_cons_succ]
  refine Turns.take hS 4 (.func (.func p.fn) #[] p.caps) rfl (by kernel_rfl) (by kernel_rfl) (by kernel_rfl) (by kernel_rfl) (fun _ _ _ h => h) (by rfl) (fun w' hS' => by go_simp) ?_
  simp only [Act.put, List.getElem_toArray, List.getElem_cons_succ, List.getElem_cons_zero, List.setIfInBounds_toArray, List.set_cons_zero, List.set_cons_succ]
  refine Turns.take hS 5 (.pointer (some ⟨w.heap.size, 1, none⟩)) rfl (by kernel_rfl) (by kernel_rfl) (by kernel_rfl) (by kernel_rfl) (fun _ _ _ h => h) (by rfl) (fun w' hS' => by go_simp) ?_
  simp only [Act.put, List.getElem_toArray, List.getElem_cons_succ, List.getElem_cons_zero, List.setIfInBounds_toArray, List.set_cons_zero, List.set_cons_succ]
  refine Turns.take hS 6 (.int .i64 a1) rfl (by kernel_rfl) (by kernel_rfl) (by kernel_rfl) (by kernel_rfl) (fun _ _ _ h => h) (by rfl) (fun w' hS' => by (try dsimp only at hS'); go_split_ands; go_simp) ?_
  simp only [Act.put, List.getElem_toArray, List.getElem_cons_succ, List.getElem_cons_zero, List.setIfInBounds_toArray, List.set_cons_zero, List.set_cons_succ]
  refine Turns.next 3 rfl (by kernel_rfl) (by rfl) (fun K hK => ?_)
  go_simp
  refine (d0.pick HP.out q0).mono ?_
  rintro e w2 ⟨rfl, m2⟩
  have hS2 : w2.cell? ⟨w.heap.size, 0, none⟩ = some (.int .i64 a0) ∧ w2.cell? ⟨w.heap.size, 1, none⟩ = some (.int .i64 a1) := ⟨m2.holds.cell 0, m2.holds.cell 1⟩
  refine hK.out _ _ hS2 ?_
  clear hK K
  refine Turns.take hS2 8 (.pointer (some ⟨w.heap.size, 0, none⟩)) rfl (by kernel_rfl) (by kernel_rfl) (by kernel_rfl) (by kernel_rfl) (fun _ _ _ h => h) (by rfl) (fun w' hS' => by go_simp) ?_
  simp only [Act.put, List.getElem_toArray, List.getElem_cons_succ, List.getElem_cons_zero, List.setIfInBounds_toArray, List.set_cons_zero, List.set_cons_succ]
  refine Turns.next 7 rfl (by kernel_rfl) (by rfl) (fun K hK => ?_)
  go_simp
  refine (m2.pick HP.out q1).mono ?_
  rintro e w3 ⟨rfl, m3⟩
  have hS3 : w3.cell? ⟨w.heap.size, 0, none⟩ = some (.int .i64 a0) ∧ w3.cell? ⟨w.heap.size, 1, none⟩ = some (.int .i64 a1) := ⟨m3.holds.cell 0, m3.holds.cell 1⟩
  refine hK.out _ _ hS3 ?_
  clear hK K
  refine Turns.rest (late_done (by kernel_rfl)) ?_
  refine any_tail 9 (by rfl) (by kernel_rfl) ?_
  simp only [List.drop_succ_cons, List.drop_zero]
  have e0 := m3.holds.cell 0
  have e1 := m3.holds.cell 1
  have f0 := m3.holds.soft 0
  have f1 := m3.holds.soft 1
  go_wp2
  have m4 := ((m3.put HP.out 0 (.int .i64 b0)).put HP.out 1 (.int .i64 b1))
  revert m4
  generalize ((w3.setCell ⟨w.heap.size, 0, none⟩ (.int .i64 b0)).setCell ⟨w.heap.size, 1, none⟩ (.int .i64 b1)) = w4
  intro m4
  clear e0 e1 f0 f1 d0
  have d1 := m4.drew HP.out
  refine region_turns (fun w' => w'.cell? ⟨w.heap.size, 2, none⟩ = some (.int .u16 a2) ∧ w'.cell? ⟨w.heap.size, 3, none⟩ = some (.int .u16 a3)) (fun j => decide (9 ≤ j)) (by kernel_rfl) ⟨d1.holds.cell 2, d1.holds.cell 3⟩ (fun hS => ?_)
  refine Turns.take hS 0 (.func (.func p.fn) #[] p.caps) rfl (by kernel_rfl) (by kernel_rfl) (by kernel_rfl) (by kernel_rfl) (fun _ _ _ h => h) (by rfl) (fun w' hS' => by go_simp) ?_
  simp only [Act.put, List.getElem_toArray, List.getElem_cons_succ, List.getElem_cons_zero, List.setIfInBounds_toArray, List.set_cons_zero, List.set_cons_succ]
  refine Turns.take hS 1 (.pointer (some ⟨w.heap.size, 2, none⟩)) rfl (by kernel_rfl) (by kernel_rfl) (by kernel_rfl) (by kernel_rfl) (fun _ _ _ h => h) (by rfl) (fun w' hS' => by go_simp) ?_
  simp only [Act.put, List.getElem_toArray, List.getElem_cons_succ, List.getElem_cons_zero, List.setIfInBounds_toArray, List.set_cons_zero, List.set_cons_succ]
  refine Turns.take hS 2 (.int .u16 a2) rfl (by kernel_rfl) (by kernel_rfl) (by kernel_rfl) (by kernel_rfl) (fun _ _ _ h => h) (by rfl) (fun w' hS' => by (try dsimp only at hS'); go_split_ands; go_simp) ?_
  simp only [Act.put, List.getElem_toArray, List.getElem_cons_succ, List.getElem_cons_zero, List.setIfInBounds_toArray, List.set_cons_zero, List.set_cons_succ]
  refine Turns.take hS 4 (.func (.func p.fn) #[] p.caps) rfl (by kernel_rfl) (by kernel_rfl) (by kernel_rfl) (by kernel_rfl) (fun _ _ _ h => h) (by rfl) (fun w' hS' => by go_simp) ?_
  simp only [Act.put, List.getElem_toArray, List.getElem_cons_succ, List.getElem_cons_zero, List.setIfInBounds_toArray, List.set_cons_zero, List.set_cons_succ]
  refine Turns.take hS 5 (.pointer (some ⟨w.heap.size, 3, none⟩)) rfl (by kernel_rfl) (by kernel_rfl) (by kernel_rfl) (by kernel_rfl) (fun _ _ _ h => h) (by rfl) (fun w' hS' => by go_simp) ?_
  simp only [Act.put, List.getElem_toArray, List.getElem_cons_succ, List.getElem_cons_zero, List.setIfInBounds_toArray, List.set_cons_zero, List.set_cons_succ]
  refine Turns.take hS 6 (.int .u16 a3) rfl (by kernel_rfl) (by kernel_rfl) (by kernel_rfl) (by kernel_rfl) (fun _ _ _ h => h) (by rfl) (fun w' hS' => by (try dsimp only at hS'); go_split_ands; go_simp) ?_
  simp only [Act.put, List.getElem_toArray, List.getElem_cons_succ, List.getElem_cons_zero, List.setIfInBounds_toArray, List.set_cons_zero, List.set_cons_succ]
  refine Turns.next 3 rfl (by kernel_rfl) (by rfl) (fun K hK => ?_)
  go_simp
  refine (Mid.mark HP.out d1 q2 u2 v2).mono ?_
  rintro e w5 ⟨rfl, m5⟩
  have hS5 : w5.cell? ⟨w.heap.size, 2, none⟩ = some (.int .u16 a2) ∧ w5.cell? ⟨w.heap.size, 3, none⟩ = some (.int .u16 a3) := ⟨m5.holds.cell 2, m5.holds.cell 3⟩
  refine hK.out _ _ hS5 ?_
  clear hK K
  refine Turns.take hS5 8 (.pointer (some ⟨w.heap.size, 2, none⟩)) rfl (by kernel_rfl) (by kernel_rfl) (by kernel_rfl) (by kernel_rfl) (fun _ _ _ h => h) (by rfl) (fun w' hS' => by go_simp) ?_
  simp only [Act.put, List.getElem_toArray, List.getElem_cons_succ, List.getElem_cons_zero, List.setIfInBounds_toArray, List.set_cons_zero, List.set_cons_succ]
  refine Turns.next 7 rfl (by kernel_rfl) (by rfl) (fun K hK => ?_)
  go_simp
  refine (Mid.mark HP.out m5 q3 u3 v3).mono ?_
  rintro e w6 ⟨rfl, m6⟩
  have hS6 : w6.cell? ⟨w.heap.size, 2, none⟩ = some (.int .u16 a2) ∧ w6.cell? ⟨w.heap.size, 3, none⟩ = some (.int .u16 a3) := ⟨m6.holds.cell 2, m6.holds.cell 3⟩
  refine hK.out _ _ hS6 ?_
  clear hK K
  refine Turns.rest (late_done (by kernel_rfl)) ?_
  refine any_tail 9 (by rfl) (by kernel_rfl) ?_
  simp only [List.drop_succ_cons, List.drop_zero]
  have e2 := m6.holds.cell 2
  have e3 := m6.holds.cell 3
  have f2 := m6.holds.soft 2
  have f3 := m6.holds.soft 3
  go_wp2
  have m7 := ((m6.put HP.out 2 (.int .u16 b2)).put HP.out 3 (.int .u16 b3))
  revert m7
  generalize ((w6.setCell ⟨w.heap.size, 2, none⟩ (.int .u16 b2)).setCell ⟨w.heap.size, 3, none⟩ (.int .u16 b3)) = w7
  intro m7
  clear e2 e3 f2 f3 d1
  have d2 := m7.drew HP.out
  refine region_turns (fun w' => w'.cell? ⟨w.heap.size, 4, none⟩ = some (.int .i64 a4) ∧ w'.cell? ⟨w.heap.size, 5, none⟩ = some (.int .i64 a5)) (fun j => decide (9 ≤ j)) (by kernel_rfl) ⟨d2.holds.cell 4, d2.holds.cell 5⟩ (fun hS => ?_)
  refine Turns.take hS 0 (.func (.func p.fn) #[] p.caps) rfl (by kernel_rfl) (by kernel_rfl) (by kernel_rfl) (by kernel_rfl) (fun _ _ _ h => h) (by rfl) (fun w' hS' => by go_simp) ?_
  simp only [Act.put, List.getElem_toArray, List.getElem_cons_succ, List.getElem_cons_zero, List.setIfInBounds_toArray, List.set_cons_zero, List.set_cons_succ]
  refine Turns.take hS 1 (.pointer (some ⟨w.heap.size, 4, none⟩)) rfl (by kernel_rfl) (by kernel_rfl) (by kernel_rfl) (by kernel_rfl) (fun _ _ _ h => h) (by rfl) (fun w' hS' => by go_simp) ?_
  simp only [Act.put, List.getElem_toArray, List.getElem_cons_succ, List.getElem_cons_zero, List.setIfInBounds_toArray, List.set_cons_zero, List.set_cons_succ]
  refine Turns.take hS 2 (.int .i64 a4) rfl (by kernel_rfl) (by kernel_rfl) (by kernel_rfl) (by kernel_rfl) (fun _ _ _ h => h) (by rfl) (fun w' hS' => by (try dsimp only at hS'); go_split_ands; go_simp) ?_
  simp only [Act.put, List.getElem_toArray, List.getElem_cons_succ, List.getElem_cons_zero, List.setIfInBounds_toArray, List.set_cons_zero, List.set_cons_succ]
  refine Turns.take hS 4 (.func (.func p.fn) #[] p.caps) rfl (by kernel_rfl) (by kernel_rfl) (by kernel_rfl) (by kernel_rfl) (fun _ _ _ h => h) (by rfl) (fun w' hS' => by go_simp) ?_
  simp only [Act.put, List.getElem_toArray, List.getElem_cons_succ, List.getElem_cons_zero, List.setIfInBounds_toArray, List.set_cons_zero, List.set_cons_succ]
  refine Turns.take hS 5 (.pointer (some ⟨w.heap.size, 5, none⟩)) rfl (by kernel_rfl) (by kernel_rfl) (by kernel_rfl) (by kernel_rfl) (fun _ _ _ h => h) (by rfl) (fun w' hS' => by go_simp) ?_
  simp only [Act.put, List.getElem_toArray, List.getElem_cons_succ, List.getElem_cons_zero, List.setIfInBounds_toArray, List.set_cons_zero, List.set_cons_succ]
  refine Turns.take hS 6 (.int .i64 a5) rfl (by kernel_rfl) (by kernel_rfl) (by kernel_rfl) (by kernel_rfl) (fun _ _ _ h => h) (by rfl) (fun w' hS' => by (try dsimp only at hS'); go_split_ands; go_simp) ?_
  simp only [Act.put, List.getElem_toArray, List.getElem_cons_succ, List.getElem_cons_zero, List.setIfInBounds_toArray, List.set_cons_zero, List.set_cons_succ]
  refine Turns.next 3 rfl (by kernel_rfl) (by rfl) (fun K hK => ?_)
  go_simp
  refine (d2.pick HP.out q4).mono ?_
  rintro e w8 ⟨rfl, m8⟩
  have hS8 : w8.cell? ⟨w.heap.size, 4, none⟩ = some (.int .i64 a4) ∧ w8.cell? ⟨w.heap.size, 5, none⟩ = some (.int .i64 a5) := ⟨m8.holds.cell 4, m8.holds.cell 5⟩
  refine hK.out _ _ hS8 ?_
  clear hK K
  refine Turns.take hS8 8 (.pointer (some ⟨w.heap.size, 4, none⟩)) rfl (by kernel_rfl) (by kernel_rfl) (by kernel_rfl) (by kernel_rfl) (fun _ _ _ h => h) (by rfl) (fun w' hS' => by go_simp) ?_
  simp only [Act.put, List.getElem_toArray, List.getElem_cons_succ, List.getElem_cons_zero, List.setIfInBounds_toArray, List.set_cons_zero, List.set_cons_succ]
  refine Turns.next 7 rfl (by kernel_rfl) (by rfl) (fun K hK => ?_)
  go_simp
  refine (m8.pick HP.out q5).mono ?_
  rintro e w9 ⟨rfl, m9⟩
  have hS9 : w9.cell? ⟨w.heap.size, 4, none⟩ = some (.int .i64 a4) ∧ w9.cell? ⟨w.heap.size, 5, none⟩ = some (.int .i64 a5) := ⟨m9.holds.cell 4, m9.holds.cell 5⟩
  refine hK.out _ _ hS9 ?_
  clear hK K
  refine Turns.rest (late_done (by kernel_rfl)) ?_
  refine any_tail 9 (by rfl) (by kernel_rfl) ?_
  simp only [List.drop_succ_cons, List.drop_zero]
  have e0 := m9.holds.cell 0
  have e1 := m9.holds.cell 1
  have e2 := m9.holds.cell 2
  have e3 := m9.holds.cell 3
  have e4 := m9.holds.cell 4
  have e5 := m9.holds.cell 5
  have f4 := m9.holds.soft 4
  have f5 := m9.holds.soft 5
  go_wp2
  go_ret
  exact ((m9.put HP.out 4 (.int .i64 b4)).put HP.out 5 (.int .i64 b5)).done _
end Go.Proofs.Ytgmeakcfiaopcaa

/- Package frame: can a word be? -/
namespace Go.Proofs.Ytgmeakcfiaopcaa
open Go.RowKit
set_option linter.unusedVariables false
set_option linter.unusedSimpArgs false

/-- Can a word be? -/
def wgoodB (a b h t : Int) : Bool := decide (0 ≤ a ∧ a ≤ 63) && decide (0 ≤ b ∧ b ≤ 63) && decide (0 ≤ h ∧ h ≤ 63) && timeB t
theorem wfold (a b c d h t : Int) (hc : F16 c) (hd : F16 d) : (((((((true && wokF 0 1) && wokF 1 a) && wokF 1 b) && wokF 3 c) && wokF 3 d) && wokF 2 h) && wokF 4 t) = wgoodB a b h t := by
  obtain ⟨c0, c1⟩ := hc
  obtain ⟨d0, d1⟩ := hd
  have e0 : wokF 0 1 = true := by decide
  have e3 : wokF 3 c = true := by
    unfold wokF
    rw [decide_eq_true c0, decide_eq_true (show c ≤ wmost 3 from (by show c ≤ 65535; omega))]
    rfl
  have e4 : wokF 3 d = true := by
    unfold wokF
    rw [decide_eq_true d0, decide_eq_true (show d ≤ wmost 3 from (by show d ≤ 65535; omega))]
    rfl
  rw [e0, e3, e4]
  have k1 : ∀ n, wokF 1 n = decide (0 ≤ n ∧ n ≤ 63) := fun n => by rw [Bool.decide_and]; rfl
  have k2 : ∀ n, wokF 2 n = decide (0 ≤ n ∧ n ≤ 63) := fun n => by rw [Bool.decide_and]; rfl
  have k4 : ∀ n, wokF 4 n = timeB n := fun n => by unfold timeB; rw [Bool.decide_and]; rfl
  rw [k1, k1, k2, k4]
  unfold wgoodB
  simp
set_option maxHeartbeats 2000000 in
theorem wgood_any (a b c d h t : Int) (w : World) (fa : Fits a) (fb : Fits b) (fc : F16 c) (fd : F16 d) (fh : Fits h) (ft : Fits t) :
    Calls Try.prog 41 #[.iface 48 (.agg #[.int .i64 a, .int .i64 b, .int .u16 c, .int .u16 d, .int .i64 h, .int .i64 t])] w fun e w' => e = .returned (.bool (wgoodB a b h t)) ∧ Below w.heap.size w w' := by
  have hp := picked_sync (wgoodP w w.heap.size) (wgoodP_right w w.heap.size) true _ _ _ _ _ _ _ a b c d h t a b c d h t 1 (w.alloc (.cells #[.bool true] 4)) (WOne.start w _ _)
    (wpick _ 0 1 (.inl rfl) ⟨by decide, by decide⟩) (wpick _ 1 a (.inr (.inl rfl)) fa) (wpick _ 1 b (.inr (.inl rfl)) fb) (wpick _ 3 c (.inr (.inr (.inr (.inl rfl)))) (fit16 fc)) fc fc (wpick _ 3 d (.inr (.inr (.inr (.inl rfl)))) (fit16 fd)) fd fd
    (wpick _ 2 h (.inr (.inr (.inl rfl))) fh) (wpick _ 4 t (.inr (.inr (.inr (.inr rfl)))) ft)
  rw [wfold a b c d h t fc fd] at hp
  obtain ⟨G, hG⟩ : ∃ G, wgoodB a b h t = G := ⟨_, rfl⟩
  rw [hG] at hp ⊢
  have hne : ∀ (u : TypeId) (v : Value) (W : World), (binOp .neq 102 (.iface u v) .nilIface).run Try.prog W = .ok (.bool true) W := fun u v W => by kernel_rfl
  clear hG fa fb fc fd fh ft
  cases G
  all_goals
    go_enter Try.func41, Try.ntmps41
    go_wp2_with (go_at_call 47; refine hp.mono ?_; rintro e w1 ⟨rfl, hi, hk⟩; have c0 := hi.holds.cell 0)
    go_ret
    exact ⟨rfl, hi.below⟩
end Go.Proofs.Ytgmeakcfiaopcaa

/- Package flood: a node, how it lies in memory; Good of rules, what is known. -/
namespace Go.Proofs.Ytgmeakcfiaopcaa
open Go.RowKit
set_option linter.unusedVariables false
set_option linter.unusedSimpArgs false

def preV (g : Nat) (f : FS) : List Value := [.pointer (some ⟨g, 0, none⟩), .int .i64 f.s.me, .int .i64 f.s.tmo, .int .i64 f.s.ign, .int .i64 f.need, .int .i64 f.drift]
def ptV (l g h : Int) : List Value := [.int .i64 l, .int .i64 g, .int .i64 h]
/-- A node that floods, at block gf; whose time it goes by, at block g, what it knows of roots, at block b. -/
structure Fo (w : World) (B gf g b n : Nat) (f : FS) : Prop where
  node : En w B g b n f.s
  newer : B ≤ gf
  tab : Tb w gf 6 67 (preV g f) (ptV f.pl f.pg f.ph) f.L
/-- The blocks of a node. -/
def fpart (gf g b : Nat) : Nat → Prop := fun k => k = gf ∨ k = g ∨ k = b
/-- What becomes of a node: nothing else changes, and its blocks are those that it had, or new. -/
def FGoes (B gf g b n : Nat) (f : FS) (w w' : World) : Prop := ∃ b', Fo w' B gf g b' n f ∧ Chg (fpart gf g b) w w' ∧ (b' = b ∨ w.heap.size ≤ b')
section
variable {pre post : List Value} {K : List Ent} {n : Int} {o : Nat}
theorem tcs_post (hK : K.length = 8) (ho : pre.length = o) (j : Nat) : (tcs pre post K n)[o + 25 + j]? = post[j]? := by
  unfold tcs
  have h1 : (trs K ++ [Value.int .i64 n]).length = 25 := tcs_mid hK
  rw [List.getElem?_append_right (by omega), List.getElem?_append_right (by omega), h1, ho]
  congr 1
  omega
theorem tcs_pre (ho : pre.length = o) {j : Nat} (hj : j < o) : (tcs pre post K n)[j]? = pre[j]? := by
  unfold tcs
  rw [List.getElem?_append_left (by omega)]
theorem tcs_behind (hK : K.length = 8) (ho : pre.length = o) {new : List Value} (hn : new.length = post.length) : splice (tcs pre post K n) (o + 25) new = tcs pre new K n := by
  unfold tcs
  have h1 : (trs K ++ [Value.int .i64 n]).length = 25 := tcs_mid hK
  have h2 := splice_mid (pre ++ (trs K ++ [Value.int .i64 n])) post [] new 0 (by omega)
  simp only [List.append_nil, Nat.add_zero, List.append_assoc, List.length_append, ho] at h2
  rw [splice_all post new hn] at h2
  simp only [List.append_nil, List.append_assoc, List.length_append] at h1 h2 ⊢
  rw [show o + 25 = o + ((trs K).length + [Value.int IntKind.i64 n].length) by omega]
  exact h2
end
section
variable {w w' : World} {B gf g b n : Nat} {f : FS}
theorem Fo.lt (h : Fo w B gf g b n f) : gf < w.heap.size := h.tab.lt
theorem Fo.ne (h : Fo w B gf g b n f) : gf ≠ g ∧ gf ≠ b := by
  obtain ⟨K, hT⟩ := h.tab
  exact ⟨hT.holds.apart h.node.holds (by decide), h.node.km.apart hT.holds⟩
theorem Fo.chg {S : Nat → Prop} (h : Fo w B gf g b n f) (hc : Chg S w w') (hn : ∀ k, fpart gf g b k → ¬ S k) : Fo w' B gf g b n f :=
  ⟨h.node.chg hc (fun k hk => hn k (.inr hk)), h.newer, h.tab.chg hc (hn gf (.inl rfl))⟩
theorem Fo.below (h : Fo w B gf g b n f) (hb : Below w.heap.size w w') : Fo w' B gf g b n f := h.chg (Chg.of_below (fun _ => False) hb) (fun _ _ h => h)
theorem Fo.drewN (h : Fo w B gf g b n f) (m : Nat) : Fo (w.drewN m) B gf g b n f := h.below (below_drewN (Below.refl _ _) m)
theorem Fo.mono (h : Fo w B gf g b n f) {n' : Nat} (hn : n ≤ n') : Fo w B gf g b n' f := ⟨h.node.mono hn, h.newer, h.tab⟩
theorem Fo.at (h : Fo w B gf g b n f) {B' : Nat} (h0 : B' ≤ B) : Fo w B' gf g b n f := ⟨h.node.at (Nat.le_trans h0 h.node.newer.1) (Nat.le_trans h0 h.node.newer.2), Nat.le_trans h0 h.newer, h.tab⟩
/-- The cells of a node. -/
theorem Fo.cells (h : Fo w B gf g b n f) : w.cell? ⟨gf, 0, none⟩ = some (.pointer (some ⟨g, 0, none⟩)) ∧ w.cell? ⟨gf, 1, none⟩ = some (.int .i64 f.s.me) ∧ w.cell? ⟨gf, 4, none⟩ = some (.int .i64 f.need) ∧ w.cell? ⟨gf, 5, none⟩ = some (.int .i64 f.drift) ∧
    w.cell? ⟨gf, 31, none⟩ = some (.int .i64 f.pl) ∧ w.cell? ⟨gf, 32, none⟩ = some (.int .i64 f.pg) ∧ w.cell? ⟨gf, 33, none⟩ = some (.int .i64 f.ph) := by
  obtain ⟨K, hT⟩ := h.tab
  have e := hT.eight
  have key : ∀ j, w.cell? ⟨gf, j, none⟩ = (tcs (preV g f) (ptV f.pl f.pg f.ph) K f.L.length)[j]? := fun j => by rw [hT.holds.cell, List.getElem?_toArray]
  rw [key, key, key, key, key, key, key]
  exact ⟨tcs_pre (o := 6) rfl (by omega), tcs_pre (o := 6) rfl (by omega), tcs_pre (o := 6) rfl (by omega), tcs_pre (o := 6) rfl (by omega), tcs_post (o := 6) e rfl 0, tcs_post (o := 6) e rfl 1, tcs_post (o := 6) e rfl 2⟩
theorem Fo.point (h : Fo w B gf g b n f) : ∀ j v, (ptV f.pl f.pg f.ph)[j]? = some v → w.cell? ⟨gf, 31 + j, none⟩ = some v := fun j v hv => by
  obtain ⟨K, hT⟩ := h.tab
  rw [hT.holds.cell, List.getElem?_toArray]
  exact (tcs_post (o := 6) hT.eight rfl j).trans hv
theorem FGoes.of_below (h : FGoes B gf g b n f w w') {u : World} (hb : Below w'.heap.size w' u) : FGoes B gf g b n f w u := by
  obtain ⟨b', ht, hc, hp⟩ := h
  exact ⟨b', ht.below hb, hc.trans (Chg.of_below (fun _ => False) hb) (fun _ _ h => h.elim), hp⟩
theorem FGoes.after {u : World} (hb : Below w.heap.size w u) (h : FGoes B gf g b n f u w') : FGoes B gf g b n f w w' := by
  obtain ⟨b', ht, hc, hp⟩ := h
  exact ⟨b', ht, (Chg.of_below (fpart gf g b) hb).trans hc (fun _ _ h => h), hp.imp id (fun h => Nat.le_trans hb.size h)⟩
theorem FGoes.refl (h : Fo w B gf g b n f) : FGoes B gf g b n f w w := ⟨b, h, Chg.refl _ _, .inl rfl⟩
theorem FGoes.mono (h : FGoes B gf g b n f w w') {n' : Nat} (hn : n ≤ n') : FGoes B gf g b n' f w w' := by
  obtain ⟨b', ht, hc, hp⟩ := h
  exact ⟨b', ht.mono hn, hc, hp⟩
/-- One call behind another. -/
theorem FGoes.trans {n1 n2 b1 : Nat} {f1 f2 : FS} {u : World} (h1 : Fo u B gf g b1 n1 f1) (hc : Chg (fpart gf g b) w u) (hp : b1 = b ∨ w.heap.size ≤ b1) (h2 : FGoes B gf g b1 n2 f2 u w') (hw : w.heap.size ≤ u.heap.size) : FGoes B gf g b n2 f2 w w' := by
  obtain ⟨b', ht, hc2, hp2⟩ := h2
  refine ⟨b', ht, hc.trans hc2 (fun k hk hk2 => ?_), ?_⟩
  · rcases hk2 with e | e | e
    · exact .inl e
    · exact .inr (.inl e)
    · rcases hp with k1 | k1
      · exact .inr (.inr (e.trans k1))
      · omega
  · rcases hp2 with k2 | k2
    · rw [k2]
      exact hp
    · exact .inr (Nat.le_trans hw k2)
/-- Whose time it goes by made a step. -/
theorem Fo.node_goes {n' : Nat} {s' : St} (h : Fo w B gf g b n f) (hg : Goes B g b n' s' w w') (hs : s'.me = f.s.me ∧ s'.tmo = f.s.tmo ∧ s'.ign = f.s.ign) : FGoes B gf g b n' (f.at s') w w' := by
  obtain ⟨b', h1, h2, h3⟩ := hg
  obtain ⟨n1, n2⟩ := h.ne
  refine ⟨b', ⟨h1, h.newer, ?_⟩, h2.mono (fun k _ hk => .inr hk), h3⟩
  have ht := h.tab.chg h2 (fun hk => hk.elim n1 n2)
  have e : preV g (f.at s') = preV g f := by
    unfold preV FS.at
    simp only [hs.1, hs.2.1, hs.2.2]
  rw [e]
  exact ht
/-- Its table made a step. -/
theorem Fo.tab_goes {L' : List Ent} (h : Fo w B gf g b n f) (ht : Tb w' gf 6 67 (preV g f) (ptV f.pl f.pg f.ph) L') (hc : Chg (fun k => k = gf) w w') : FGoes B gf g b n { f with L := L' } w w' := by
  obtain ⟨n1, n2⟩ := h.ne
  exact ⟨b, ⟨h.node.chg hc (fun k hk e => by cases e; exact hk.elim n1 n2), h.newer, ht⟩, hc.mono (fun k _ hk => .inl hk), .inl rfl⟩
/-- Its point is written. -/
theorem Fo.put (h : Fo w B gf g b n f) (l x y : Int) : ∃ cur : List Value, Holds w gf 67 cur.toArray ∧ 31 + (ptV l x y).length ≤ cur.length ∧ FGoes B gf g b n { f with pl := l, pg := x, ph := y } w (w.setRow gf (splice cur 31 (ptV l x y)).toArray) := by
  obtain ⟨K, hT⟩ := h.tab
  obtain ⟨n1, n2⟩ := h.ne
  have hr := hT.holds.row (splice (tcs (preV g f) (ptV f.pl f.pg f.ph) K f.L.length) 31 (ptV l x y)).toArray
  have hc : Chg (fun k => k = gf) w (w.setRow gf (splice (tcs (preV g f) (ptV f.pl f.pg f.ph) K f.L.length) 31 (ptV l x y)).toArray) := Chg.of_grown (grown_row w gf _) (fun k e => by cases e; rfl)
  refine ⟨_, hT.holds, ?_, b, ⟨h.node.chg hc (fun k hk e => by cases e; exact hk.elim n1 n2), h.newer, K, rfl, hT.eight, hT.le, hT.is, ?_⟩, hc.mono (fun k _ hk => .inl hk), .inl rfl⟩
  · rw [tcs_len (o := 6) hT.eight rfl]
    exact Nat.le_refl _
  · have e := tcs_behind (o := 6) (n := f.L.length) (pre := preV g f) (post := ptV f.pl f.pg f.ph) (new := ptV l x y) hT.eight rfl rfl
    rw [e] at hr ⊢
    exact hr
end
theorem hear_rules (s : St) (r x q : Int) : (hearS s r x q).me = s.me ∧ (hearS s r x q).tmo = s.tmo ∧ (hearS s r x q).ign = s.ign := by unfold hearS; split <;> exact ⟨rfl, rfl, rfl⟩
theorem beat_rules (s : St) : (beatS s).me = s.me ∧ (beatS s).tmo = s.tmo ∧ (beatS s).ign = s.ign := by
  unfold beatS
  split
  · exact ⟨rfl, rfl, rfl⟩
  · split <;> exact ⟨rfl, rfl, rfl⟩
theorem issue_rules (s : St) : (issueS s).me = s.me ∧ (issueS s).tmo = s.tmo ∧ (issueS s).ign = s.ign := by unfold issueS; split <;> exact ⟨rfl, rfl, rfl⟩
theorem ftime_any (t : Int) (w : World) : Calls Try.prog 21 #[.int .i64 t] w fun e w' => e = .returned (.bool (timeB t)) ∧ w = w' := by
  by_cases h1 : 0 ≤ t
  · have d1 : decide (0 ≤ t) = true := decide_eq_true h1
    by_cases h2 : t ≤ 1125899906842624
    · have d2 : decide (t ≤ 1125899906842624) = true := decide_eq_true h2
      have e : timeB t = true := decide_eq_true ⟨h1, h2⟩
      rw [e]
      clear e
      go_enter Try.func21, Try.ntmps21
      go_wp2
      go_ret
      exact ⟨rfl, rfl⟩
    · have d2 : decide (t ≤ 1125899906842624) = false := decide_eq_false h2
      have e : timeB t = false := decide_eq_false (fun k => h2 k.2)
      rw [e]
      clear e
      go_enter Try.func21, Try.ntmps21
      go_wp2
      go_ret
      exact ⟨rfl, rfl⟩
  · have d1 : decide (0 ≤ t) = false := decide_eq_false h1
    have e : timeB t = false := decide_eq_false (fun k => h1 k.1)
    rw [e]
    clear e
    go_enter Try.func21, Try.ntmps21
    go_wp2
    go_ret
    exact ⟨rfl, rfl⟩
/-- Can there be such rules? -/
def frulesB (tmo ign need drift : Int) : Bool := rulesB tmo ign && decide (1 ≤ need ∧ need ≤ 8 ∧ 0 ≤ drift ∧ drift ≤ 10)
theorem frules_any (w : World) (tmo ign need drift : Int) : Calls Try.prog 19 #[.agg #[.int .i64 tmo, .int .i64 ign, .int .i64 need, .int .i64 drift]] w fun e w' => e = .returned (.bool (frulesB tmo ign need drift)) ∧ Below w.heap.size w w' := by
  have HB := Lib.hid (Box.start w 36 #[.int .i64 tmo, .int .i64 ign, .int .i64 need, .int .i64 drift])
  have hru := fun W => rules_any W tmo ign
  unfold frulesB
  obtain ⟨R, hR⟩ : ∃ R, rulesB tmo ign = R := ⟨_, rfl⟩
  simp only [hR] at hru ⊢
  clear hR
  obtain ⟨d, e, hd⟩ : ∃ d, decide (1 ≤ need ∧ need ≤ 8 ∧ 0 ≤ drift ∧ drift ≤ 10) = d ∧ (decide (1 ≤ need) = false ∧ d = false ∨ decide (1 ≤ need) = true ∧ decide (need ≤ 8) = false ∧ d = false ∨
      decide (1 ≤ need) = true ∧ decide (need ≤ 8) = true ∧ decide (0 ≤ drift) = false ∧ d = false ∨ decide (1 ≤ need) = true ∧ decide (need ≤ 8) = true ∧ decide (0 ≤ drift) = true ∧ decide (drift ≤ 10) = d) := by
    refine ⟨_, rfl, ?_⟩
    by_cases h1 : 1 ≤ need <;> by_cases h2 : need ≤ 8 <;> by_cases h3 : 0 ≤ drift <;> by_cases h4 : drift ≤ 10 <;> simp [h1, h2, h3, h4]
  rw [e]
  clear e
  cases R with
  | false =>
    clear hd
    go_enter Try.func19, Try.ntmps19
    go_wp2_with (go_at_call 33; refine (hru _).mono ?_; rintro e w2 ⟨rfl, hb2⟩; replace HB := Lib.hid (HB.out.next hb2); have c2 := HB.out.holds.cell 2; have c3 := HB.out.holds.cell 3)
    go_ret
    exact ⟨rfl, HB.out.below⟩
  | true =>
    rcases hd with ⟨h1, rfl⟩ | ⟨h1, h2, rfl⟩ | ⟨h1, h2, h3, rfl⟩ | ⟨h1, h2, h3, h4⟩
    all_goals
      go_enter Try.func19, Try.ntmps19
      go_wp2_with (go_at_call 33; refine (hru _).mono ?_; rintro e w2 ⟨rfl, hb2⟩; replace HB := Lib.hid (HB.out.next hb2); have c2 := HB.out.holds.cell 2; have c3 := HB.out.holds.cell 3)
      go_ret
      exact ⟨rfl, HB.out.below⟩
theorem entries_any (w : World) (B gf g b n : Nat) (f : FS) (h : Fo w B gf g b n f) : Calls Try.prog 32 #[.pointer (some ⟨gf, 0, none⟩)] w fun e w' => e = .returned (.int .i64 f.L.length) ∧ w = w' := by
  have hl := len_any w gf 6 _ _ _ _ h.tab
  clear h
  go_enter Try.func32, Try.ntmps32
  go_wp2_with (go_at_call 44; refine hl.mono ?_; rintro e wx ⟨rfl, hwx⟩; subst wx)
  go_ret
  exact ⟨rfl, rfl⟩
theorem entries_nil (w : World) : Calls Try.prog 32 #[.pointer none] w fun e w' => e = .returned (.int .i64 0) ∧ w = w' := by
  go_enter Try.func32, Try.ntmps32
  go_wp2
  go_ret
  exact ⟨rfl, rfl⟩
theorem fdrew_two (w : World) (a b : Nat) : (w.drewN a).drewN b = w.drewN (a + b) := by simp [World.drewN, Nat.add_assoc]
theorem fdrew_drew (w : World) (a b c : Nat) : (w.drewN (a + b)).drewN c = w.drewN (a + (b + c)) := by simp [World.drewN, Nat.add_assoc]
theorem synced_nil (w : World) : Calls Try.prog 15 #[.pointer none] w fun e w' => e = .returned (.bool false) ∧ ∃ nq, w' = w.drewN nq := by
  go_enter Try.func15, Try.ntmps15
  go_wp2
  go_quiet (fail)
  go_wp2
  go_ret
  exact ⟨rfl, _, rfl⟩
theorem synced_any (w : World) (B gf g b n : Nat) (f : FS) (h : Fo w B gf g b n f) : Calls Try.prog 15 #[.pointer (some ⟨gf, 0, none⟩)] w fun e w' => e = .returned (.bool (synB f)) ∧ ∃ nq, w' = w.drewN nq := by
  obtain ⟨c0, c1, c4, c5, _⟩ := h.cells
  have hm := fun m => emine_any (w.drewN m) B g b n f.s (h.drewN m).node
  have he := fun m => entries_any (w.drewN m) B gf g b n f (h.drewN m)
  have hsyn : synB f = true ∧ decide (f.s.root = f.s.me) = true ∨ decide (f.s.root = f.s.me) = false ∧ decide (f.need ≤ (f.L.length : Int)) = synB f := by
    unfold synB
    by_cases e : f.s.root = f.s.me <;> simp [e]
  obtain ⟨m, hmm⟩ : ∃ m, decide (f.s.root = f.s.me) = m := ⟨_, rfl⟩
  obtain ⟨V, hV⟩ : ∃ V, synB f = V := ⟨_, rfl⟩
  obtain ⟨N, hN⟩ : ∃ N : Int, (f.L.length : Int) = N := ⟨_, rfl⟩
  simp only [hmm, hV, hN] at hm he hsyn ⊢
  clear hmm hV hN h
  rcases hsyn with ⟨rfl, rfl⟩ | ⟨rfl, d⟩
  · go_enter Try.func15, Try.ntmps15
    go_wp2
    go_quiet ((go_at_call 17; refine (hm _).mono ?_; rintro e wx ⟨rfl, nq, rfl⟩; first | exact ⟨rfl, _, rfl⟩ | exact ⟨rfl, _, fdrew_two _ _ _⟩ | exact ⟨rfl, _, fdrew_drew _ _ _ _⟩))
    go_wp2
    go_ret
    exact ⟨rfl, _, rfl⟩
  · go_enter Try.func15, Try.ntmps15
    go_wp2
    go_quiet (first
      | (go_at_call 17; refine (hm _).mono ?_; rintro e wx ⟨rfl, nq, rfl⟩; first | exact ⟨rfl, _, rfl⟩ | exact ⟨rfl, _, fdrew_two _ _ _⟩ | exact ⟨rfl, _, fdrew_drew _ _ _ _⟩)
      | (go_at_call 32; refine (he _).mono ?_; rintro e wx ⟨rfl, rfl⟩; exact ⟨rfl, _, rfl⟩))
    go_wp2
    go_ret
    exact ⟨rfl, _, rfl⟩
end Go.Proofs.Ytgmeakcfiaopcaa

/- Package flood: what is forgotten, what is kept; a word. -/
namespace Go.Proofs.Ytgmeakcfiaopcaa
open Go.RowKit
set_option linter.unusedVariables false
set_option linter.unusedSimpArgs false

theorem ptV_one (l x y : Int) : ∀ v ∈ ptV l x y, v.oneCell' = true := by
  intro v hv
  simp only [ptV, List.mem_cons, List.not_mem_nil, or_false] at hv
  rcases hv with rfl | rfl | rfl <;> rfl
theorem forget_any (w : World) (B gf g b n : Nat) (f : FS) (h : Fo w B gf g b n f) : Calls Try.prog 23 #[.pointer (some ⟨gf, 0, none⟩)] w fun e w' => e = .returned (.tuple #[]) ∧ FGoes B gf g b n f.clear w w' := by
  have hc := clear_any w gf 6 _ _ _ _ h.tab
  have HF := Lib.hid h
  clear h
  go_enter Try.func23, Try.ntmps23
  go_wp2_with (first
    | (go_at_call 37; refine hc.mono ?_; rintro e w1 ⟨rfl, ht, hch⟩; obtain ⟨b1, hF1, hC1, hp1⟩ := HF.out.tab_goes ht hch; obtain ⟨cur, hcur, hfit, hgo⟩ := hF1.put 0 0 0; have HG := Lib.hid (FGoes.trans hF1 hC1 hp1 hgo hch.size); have HH := Lib.hid hcur; have HI := Lib.hid hfit; clear hgo hF1 hC1 hp1 ht hch hc hcur hfit)
    | (refine wpList_store_at rfl 65 (.tmp 9) (.tmp 7) rfl gf 31 (ptV 0 0 0) rfl rfl 67 _ HH.out (by kernel_rfl) HI.out (ptV_one 0 0 0) ?_))
  go_end0
  exact ⟨rfl, HG.out⟩
set_option maxHeartbeats 1000000 in
set_option maxRecDepth 100000 in
theorem word_any (w : World) (B gf g b n : Nat) (f : FS) (h : Fo w B gf g b n f) (x y l t hp : Int) :
    Calls Try.prog 27 #[.pointer (some ⟨gf, 0, none⟩), .agg #[.int .u16 x, .int .u16 y], .agg #[.int .i64 l, .int .i64 t, .int .i64 hp]] w fun e w' => e = .returned (wordV (f.s.me, f.s.root, x, y, hp, t)) ∧ Below w.heap.size w w' := by
  obtain ⟨V, hV⟩ : ∃ V, V = ((w.alloc (.cells #[.int .u16 x, .int .u16 y] 80)).alloc (.cells #[.int .i64 l, .int .i64 t, .int .i64 hp] 65)).alloc (.cells #[.int .i64 0, .int .i64 0, .int .u16 0, .int .u16 0, .int .i64 0, .int .i64 0] 48) := ⟨_, rfl⟩
  have hb1 : Below w.heap.size w (w.alloc (.cells #[.int .u16 x, .int .u16 y] 80)) := below_alloc w _
  have hb2 := hb1.alloc (o := .cells #[.int .i64 l, .int .i64 t, .int .i64 hp] 65) hb1.size
  have hb : Below w.heap.size w V := by rw [hV]; exact hb2.alloc hb2.size _
  have hM : Holds V w.heap.size 80 #[.int .u16 x, .int .u16 y] := by rw [hV]; exact ((Holds.new w _ _).alloc _).alloc _
  have hP : Holds V (w.heap.size + 1) 65 #[.int .i64 l, .int .i64 t, .int .i64 hp] := by
    have := (Holds.new (w.alloc (.cells #[.int .u16 x, .int .u16 y] 80)) 65 #[.int .i64 l, .int .i64 t, .int .i64 hp]).alloc (.cells #[.int .i64 0, .int .i64 0, .int .u16 0, .int .u16 0, .int .i64 0, .int .i64 0] 48)
    rw [size_alloc] at this
    rw [hV]
    exact this
  have hZ : Holds V (w.heap.size + 1 + 1) 48 #[.int .i64 0, .int .i64 0, .int .u16 0, .int .u16 0, .int .i64 0, .int .i64 0] := by
    have := Holds.new ((w.alloc (.cells #[.int .u16 x, .int .u16 y] 80)).alloc (.cells #[.int .i64 l, .int .i64 t, .int .i64 hp] 65)) 48 #[.int .i64 0, .int .i64 0, .int .u16 0, .int .u16 0, .int .i64 0, .int .i64 0]
    rw [size_alloc, size_alloc] at this
    rw [hV]
    exact this
  have hf := (h.below hb).drewN 1
  obtain ⟨c0, c1, _⟩ : V.drew.cell? ⟨gf, 0, none⟩ = some (.pointer (some ⟨g, 0, none⟩)) ∧ V.drew.cell? ⟨gf, 1, none⟩ = some (.int .i64 f.s.me) ∧ True := ⟨hf.cells.1, hf.cells.2.1, trivial⟩
  have m0 : V.drew.cell? ⟨w.heap.size, 0, none⟩ = some (.int .u16 x) := hM.cell 0
  have m1 : V.drew.cell? ⟨w.heap.size, 1, none⟩ = some (.int .u16 y) := hM.cell 1
  have p1 : V.drew.cell? ⟨w.heap.size + 1, 1, none⟩ = some (.int .i64 t) := hP.cell 1
  have p2 : V.drew.cell? ⟨w.heap.size + 1, 2, none⟩ = some (.int .i64 hp) := hP.cell 2
  have hro : Calls Try.prog 16 #[.pointer (some ⟨g, 0, none⟩)] V.drew fun e w' => e = .returned (.int .i64 f.s.root) ∧ V.drew = w' := eroot_any _ B g b n _ hf.node
  have HZ : Hid (Holds V.drew (w.heap.size + 1 + 1) 48 #[.int .i64 0, .int .i64 0, .int .u16 0, .int .u16 0, .int .i64 0, .int .i64 0]) := Lib.hid (hZ.drewN 1)
  have HB := Lib.hid hb.drew
  have HF := Lib.hid (show Fo V.drew B gf g b n f from hf)
  have HM := Lib.hid (show Holds V.drew w.heap.size 80 #[.int .u16 x, .int .u16 y] from hM)
  have HP := Lib.hid (show Holds V.drew (w.heap.size + 1) 65 #[.int .i64 l, .int .i64 t, .int .i64 hp] from hP)
  have hgl := h.lt
  have hbl := h.node.lt
  have hkl := h.node.ltb
  clear hf h hM hP hZ hb1 hb2 hb
  go_enter Try.func27, Try.ntmps27
  go_upto_region 1 with fail
  rw [← hV]
  clear hV
  refine region_turns (fun (w' : World) => w'.cell? ⟨gf, 0, none⟩ = some (.pointer (some ⟨g, 0, none⟩)) ∧ w'.cell? ⟨gf, 1, none⟩ = some (.int .i64 f.s.me) ∧ w'.cell? ⟨w.heap.size, 0, none⟩ = some (.int .u16 x) ∧ w'.cell? ⟨w.heap.size, 1, none⟩ = some (.int .u16 y) ∧ w'.cell? ⟨w.heap.size + 1, 1, none⟩ = some (.int .i64 t) ∧ w'.cell? ⟨w.heap.size + 1, 2, none⟩ = some (.int .i64 hp)) (fun j => decide (19 ≤ j)) (by kernel_rfl) (⟨c0, c1, m0, m1, p1, p2⟩) (fun hS => ?_)
  refine Turns.take hS 0 _ rfl (by kernel_rfl) (by kernel_rfl) (by kernel_rfl) (by kernel_rfl) (fun _ _ _ h => h) (by rfl) (fun w' hS' => by (try dsimp only at hS'); go_split_ands; go_simp; (try with_reducible rfl)) ?_
  simp only [Act.put, List.getElem_toArray, List.getElem_cons_succ, List.getElem_cons_zero, List.setIfInBounds_toArray, List.set_cons_zero, List.set_cons_succ]
  refine Turns.take hS 1 _ rfl (by kernel_rfl) (by kernel_rfl) (by kernel_rfl) (by kernel_rfl) (fun _ _ _ h => h) (by rfl) (fun w' hS' => by (try dsimp only at hS'); go_split_ands; go_simp; (try with_reducible rfl)) ?_
  simp only [Act.put, List.getElem_toArray, List.getElem_cons_succ, List.getElem_cons_zero, List.setIfInBounds_toArray, List.set_cons_zero, List.set_cons_succ]
  refine Turns.take hS 2 _ rfl (by kernel_rfl) (by kernel_rfl) (by kernel_rfl) (by kernel_rfl) (fun _ _ _ h => h) (by rfl) (fun w' hS' => by (try dsimp only at hS'); go_split_ands; go_simp; (try with_reducible rfl)) ?_
  simp only [Act.put, List.getElem_toArray, List.getElem_cons_succ, List.getElem_cons_zero, List.setIfInBounds_toArray, List.set_cons_zero, List.set_cons_succ]
  refine Turns.take hS 3 _ rfl (by kernel_rfl) (by kernel_rfl) (by kernel_rfl) (by kernel_rfl) (fun _ _ _ h => h) (by rfl) (fun w' hS' => by (try dsimp only at hS'); go_split_ands; go_simp; (try with_reducible rfl)) ?_
  simp only [Act.put, List.getElem_toArray, List.getElem_cons_succ, List.getElem_cons_zero, List.setIfInBounds_toArray, List.set_cons_zero, List.set_cons_succ]
  refine Turns.take hS 4 _ rfl (by kernel_rfl) (by kernel_rfl) (by kernel_rfl) (by kernel_rfl) (fun _ _ _ h => h) (by rfl) (fun w' hS' => by (try dsimp only at hS'); go_split_ands; go_simp; (try with_reducible rfl)) ?_
  simp only [Act.put, List.getElem_toArray, List.getElem_cons_succ, List.getElem_cons_zero, List.setIfInBounds_toArray, List.set_cons_zero, List.set_cons_succ]
  refine Turns.take hS 5 _ rfl (by kernel_rfl) (by kernel_rfl) (by kernel_rfl) (by kernel_rfl) (fun _ _ _ h => h) (by rfl) (fun w' hS' => by (try dsimp only at hS'); go_split_ands; go_simp; (try with_reducible rfl)) ?_
  simp only [Act.put, List.getElem_toArray, List.getElem_cons_succ, List.getElem_cons_zero, List.setIfInBounds_toArray, List.set_cons_zero, List.set_cons_succ]
  refine Turns.take hS 6 _ rfl (by kernel_rfl) (by kernel_rfl) (by kernel_rfl) (by kernel_rfl) (fun _ _ _ h => h) (by rfl) (fun w' hS' => by (try dsimp only at hS'); go_split_ands; go_simp; (try with_reducible rfl)) ?_
  simp only [Act.put, List.getElem_toArray, List.getElem_cons_succ, List.getElem_cons_zero, List.setIfInBounds_toArray, List.set_cons_zero, List.set_cons_succ]
  refine Turns.take hS 7 _ rfl (by kernel_rfl) (by kernel_rfl) (by kernel_rfl) (by kernel_rfl) (fun _ _ _ h => h) (by rfl) (fun w' hS' => by (try dsimp only at hS'); go_split_ands; go_simp; (try with_reducible rfl)) ?_
  simp only [Act.put, List.getElem_toArray, List.getElem_cons_succ, List.getElem_cons_zero, List.setIfInBounds_toArray, List.set_cons_zero, List.set_cons_succ]
  refine Turns.take hS 9 _ rfl (by kernel_rfl) (by kernel_rfl) (by kernel_rfl) (by kernel_rfl) (fun _ _ _ h => h) (by rfl) (fun w' hS' => by (try dsimp only at hS'); go_split_ands; go_simp; (try with_reducible rfl)) ?_
  simp only [Act.put, List.getElem_toArray, List.getElem_cons_succ, List.getElem_cons_zero, List.setIfInBounds_toArray, List.set_cons_zero, List.set_cons_succ]
  refine Turns.take hS 10 _ rfl (by kernel_rfl) (by kernel_rfl) (by kernel_rfl) (by kernel_rfl) (fun _ _ _ h => h) (by rfl) (fun w' hS' => by (try dsimp only at hS'); go_split_ands; go_simp; (try with_reducible rfl)) ?_
  simp only [Act.put, List.getElem_toArray, List.getElem_cons_succ, List.getElem_cons_zero, List.setIfInBounds_toArray, List.set_cons_zero, List.set_cons_succ]
  refine Turns.take hS 11 _ rfl (by kernel_rfl) (by kernel_rfl) (by kernel_rfl) (by kernel_rfl) (fun _ _ _ h => h) (by rfl) (fun w' hS' => by (try dsimp only at hS'); go_split_ands; go_simp; (try with_reducible rfl)) ?_
  simp only [Act.put, List.getElem_toArray, List.getElem_cons_succ, List.getElem_cons_zero, List.setIfInBounds_toArray, List.set_cons_zero, List.set_cons_succ]
  refine Turns.take hS 12 _ rfl (by kernel_rfl) (by kernel_rfl) (by kernel_rfl) (by kernel_rfl) (fun _ _ _ h => h) (by rfl) (fun w' hS' => by (try dsimp only at hS'); go_split_ands; go_simp; (try with_reducible rfl)) ?_
  simp only [Act.put, List.getElem_toArray, List.getElem_cons_succ, List.getElem_cons_zero, List.setIfInBounds_toArray, List.set_cons_zero, List.set_cons_succ]
  refine Turns.take hS 13 _ rfl (by kernel_rfl) (by kernel_rfl) (by kernel_rfl) (by kernel_rfl) (fun _ _ _ h => h) (by rfl) (fun w' hS' => by (try dsimp only at hS'); go_split_ands; go_simp; (try with_reducible rfl)) ?_
  simp only [Act.put, List.getElem_toArray, List.getElem_cons_succ, List.getElem_cons_zero, List.setIfInBounds_toArray, List.set_cons_zero, List.set_cons_succ]
  refine Turns.take hS 14 _ rfl (by kernel_rfl) (by kernel_rfl) (by kernel_rfl) (by kernel_rfl) (fun _ _ _ h => h) (by rfl) (fun w' hS' => by (try dsimp only at hS'); go_split_ands; go_simp; (try with_reducible rfl)) ?_
  simp only [Act.put, List.getElem_toArray, List.getElem_cons_succ, List.getElem_cons_zero, List.setIfInBounds_toArray, List.set_cons_zero, List.set_cons_succ]
  refine Turns.take hS 15 _ rfl (by kernel_rfl) (by kernel_rfl) (by kernel_rfl) (by kernel_rfl) (fun _ _ _ h => h) (by rfl) (fun w' hS' => by (try dsimp only at hS'); go_split_ands; go_simp; (try with_reducible rfl)) ?_
  simp only [Act.put, List.getElem_toArray, List.getElem_cons_succ, List.getElem_cons_zero, List.setIfInBounds_toArray, List.set_cons_zero, List.set_cons_succ]
  refine Turns.take hS 16 _ rfl (by kernel_rfl) (by kernel_rfl) (by kernel_rfl) (by kernel_rfl) (fun _ _ _ h => h) (by rfl) (fun w' hS' => by (try dsimp only at hS'); go_split_ands; go_simp; (try with_reducible rfl)) ?_
  simp only [Act.put, List.getElem_toArray, List.getElem_cons_succ, List.getElem_cons_zero, List.setIfInBounds_toArray, List.set_cons_zero, List.set_cons_succ]
  refine Turns.next 8 rfl (by kernel_rfl) (by rfl) (fun K hK => ?_)
  go_simp
  go_at_call 16
  refine hro.mono ?_
  rintro e wx ⟨rfl, hwx⟩
  subst wx
  refine hK.out _ _ (show (fun (w' : World) => w'.cell? ⟨gf, 0, none⟩ = some (.pointer (some ⟨g, 0, none⟩)) ∧ w'.cell? ⟨gf, 1, none⟩ = some (.int .i64 f.s.me) ∧ w'.cell? ⟨w.heap.size, 0, none⟩ = some (.int .u16 x) ∧ w'.cell? ⟨w.heap.size, 1, none⟩ = some (.int .u16 y) ∧ w'.cell? ⟨w.heap.size + 1, 1, none⟩ = some (.int .i64 t) ∧ w'.cell? ⟨w.heap.size + 1, 2, none⟩ = some (.int .i64 hp)) _ from ⟨c0, c1, m0, m1, p1, p2⟩) ?_
  clear hK K hS
  have hS := (show (fun (w' : World) => w'.cell? ⟨gf, 0, none⟩ = some (.pointer (some ⟨g, 0, none⟩)) ∧ w'.cell? ⟨gf, 1, none⟩ = some (.int .i64 f.s.me) ∧ w'.cell? ⟨w.heap.size, 0, none⟩ = some (.int .u16 x) ∧ w'.cell? ⟨w.heap.size, 1, none⟩ = some (.int .u16 y) ∧ w'.cell? ⟨w.heap.size + 1, 1, none⟩ = some (.int .i64 t) ∧ w'.cell? ⟨w.heap.size + 1, 2, none⟩ = some (.int .i64 hp)) _ from ⟨c0, c1, m0, m1, p1, p2⟩)
  refine Turns.take hS 17 _ rfl (by kernel_rfl) (by kernel_rfl) (by kernel_rfl) (by kernel_rfl) (fun _ _ _ h => h) (by rfl) (fun w' hS' => by (try dsimp only at hS'); go_split_ands; go_simp; (try with_reducible rfl)) ?_
  simp only [Act.put, List.getElem_toArray, List.getElem_cons_succ, List.getElem_cons_zero, List.setIfInBounds_toArray, List.set_cons_zero, List.set_cons_succ]
  refine Turns.next 18 rfl (by kernel_rfl) (by rfl) (fun K hK => ?_)
  simp only [List.getElem_toArray, List.getElem_cons_succ, List.getElem_cons_zero]
  refine wp_store_at 48 (.tmp 6) (.tmp 24) rfl (w.heap.size + 1 + 1) 0 [.int .i64 f.s.me, .int .i64 f.s.root, .int .u16 x, .int .u16 y, .int .i64 hp, .int .i64 t] ?hs ?hx 48 [.int .i64 0, .int .i64 0, .int .u16 0, .int .u16 0, .int .i64 0, .int .i64 0] HZ.out (by kernel_rfl) (Nat.le_refl 6) (by intro v hv; simp only [List.mem_cons, List.not_mem_nil, or_false] at hv; rcases hv with rfl | rfl | rfl | rfl | rfl | rfl <;> rfl) ?_
  case hs => first | rfl | simp [Act.eval, Act.put]
  case hx => first | rfl | simp [Act.eval, Act.put]
  have hsp : splice ([.int .i64 0, .int .i64 0, .int .u16 0, .int .u16 0, .int .i64 0, .int .i64 0] : List Value) 0 ([.int .i64 f.s.me, .int .i64 f.s.root, .int .u16 x, .int .u16 y, .int .i64 hp, .int .i64 t] : List Value) = ([.int .i64 f.s.me, .int .i64 f.s.root, .int .u16 x, .int .u16 y, .int .i64 hp, .int .i64 t] : List Value) := splice_all _ _ rfl
  rw [hsp]
  have hrow := HZ.out.row [.int .i64 f.s.me, .int .i64 f.s.root, .int .u16 x, .int .u16 y, .int .i64 hp, .int .i64 t].toArray
  have hgr := grown_row V.drew (w.heap.size + 1 + 1) [.int .i64 f.s.me, .int .i64 f.s.root, .int .u16 x, .int .u16 y, .int .i64 hp, .int .i64 t].toArray
  have HE : Hid (Below w.heap.size w (V.drew.setRow (w.heap.size + 1 + 1) [.int .i64 f.s.me, .int .i64 f.s.root, .int .u16 x, .int .u16 y, .int .i64 hp, .int .i64 t].toArray)) := Lib.hid (Below.chg HB.out (Chg.of_grown hgr (S := fun k => w.heap.size ≤ k) (fun k e => by cases e; omega)) HB.out.size (fun k hk => hk))
  have hf2 := HF.out.chg (Chg.of_grown hgr (S := fun k => w.heap.size ≤ k) (fun k e => by cases e; omega)) (fun k hk => by rcases hk with e | e | e <;> omega)
  have hm2 := HM.out.grown hgr (fun e => absurd (Option.some.inj e) (by omega))
  have hp2 := HP.out.grown hgr (fun e => absurd (Option.some.inj e) (by omega))
  have HR := Lib.hid hrow
  have HC := Lib.hid (show _ ∧ _ ∧ _ ∧ _ ∧ _ ∧ _ from ⟨hf2.cells.1, hf2.cells.2.1, hm2.cell 0, hm2.cell 1, hp2.cell 1, hp2.cell 2⟩)
  clear hrow hgr hf2 hm2 hp2
  refine hK.out _ _ (show (fun (w' : World) => w'.cell? ⟨gf, 0, none⟩ = some (.pointer (some ⟨g, 0, none⟩)) ∧ w'.cell? ⟨gf, 1, none⟩ = some (.int .i64 f.s.me) ∧ w'.cell? ⟨w.heap.size, 0, none⟩ = some (.int .u16 x) ∧ w'.cell? ⟨w.heap.size, 1, none⟩ = some (.int .u16 y) ∧ w'.cell? ⟨w.heap.size + 1, 1, none⟩ = some (.int .i64 t) ∧ w'.cell? ⟨w.heap.size + 1, 2, none⟩ = some (.int .i64 hp)) _ from HC.out) ?_
  clear hK K hS
  have hS := (show (fun (w' : World) => w'.cell? ⟨gf, 0, none⟩ = some (.pointer (some ⟨g, 0, none⟩)) ∧ w'.cell? ⟨gf, 1, none⟩ = some (.int .i64 f.s.me) ∧ w'.cell? ⟨w.heap.size, 0, none⟩ = some (.int .u16 x) ∧ w'.cell? ⟨w.heap.size, 1, none⟩ = some (.int .u16 y) ∧ w'.cell? ⟨w.heap.size + 1, 1, none⟩ = some (.int .i64 t) ∧ w'.cell? ⟨w.heap.size + 1, 2, none⟩ = some (.int .i64 hp)) _ from HC.out)
  refine Turns.rest (late_done (by kernel_rfl)) ?_
  refine any_tail 19 (by rfl) (by kernel_rfl) ?_
  simp only [List.drop_succ_cons, List.drop_zero]
  clear hS
  go_wp2
  refine bodyPost_ret (results_cell_row rfl _ _ (w.heap.size + 1 + 1) 48 _ (0, 0) _ rfl HR.out Try.underlying48 rfl (by kernel_rfl)) rfl ?_
  exact ⟨rfl, HE.out⟩
/-- While a word is kept. -/
structure Keeping (w0 : World) (B gf g b n : Nat) (f : FS) (lo t hp : Int) (W : World) : Prop where
  fo : Fo W B gf g b n f
  chg : Chg (fun k => k = gf) w0 W
  old : gf < w0.heap.size
  point : Holds W w0.heap.size 65 #[.int .i64 lo, .int .i64 t, .int .i64 (hp + 1)]
  ent : Holds W (w0.heap.size + 1) 42 #[.int .i64 lo, .int .i64 (t - lo), .int .i64 (hp + 1)]
section
variable {w0 W W' : World} {B gf g b n : Nat} {f : FS} {lo t hp : Int}
theorem Keeping.start (h : Fo w0 B gf g b n f) (lo t hp : Int) : Keeping w0 B gf g b n f lo t hp ((w0.alloc (.cells #[.int .i64 lo, .int .i64 t, .int .i64 (hp + 1)] 65)).alloc (.cells #[.int .i64 lo, .int .i64 (t - lo), .int .i64 (hp + 1)] 42)) := by
  have hb1 := below_alloc w0 (.cells #[.int .i64 lo, .int .i64 t, .int .i64 (hp + 1)] 65)
  have hb := hb1.alloc (o := .cells #[.int .i64 lo, .int .i64 (t - lo), .int .i64 (hp + 1)] 42) hb1.size
  refine ⟨h.below hb, Chg.of_below _ hb, h.lt, (Holds.new w0 _ _).alloc _, ?_⟩
  have := Holds.new (w0.alloc (.cells #[.int .i64 lo, .int .i64 t, .int .i64 (hp + 1)] 65)) 42 #[.int .i64 lo, .int .i64 (t - lo), .int .i64 (hp + 1)]
  rw [size_alloc] at this
  exact this
theorem Keeping.drew (h : Keeping w0 B gf g b n f lo t hp W) : Keeping w0 B gf g b n f lo t hp W.drew := ⟨h.fo.drewN 1, h.chg.trans (Chg.of_below (fun _ => False) (Below.refl _ _).drew) (fun _ _ h => h.elim), h.old, h.point.drewN 1, h.ent.drewN 1⟩
theorem Keeping.tab {L' : List Ent} (h : Keeping w0 B gf g b n f lo t hp W) (ht : Tb W' gf 6 67 (preV g f) (ptV f.pl f.pg f.ph) L') (hc : Chg (fun k => k = gf) W W') : Keeping w0 B gf g b n { f with L := L' } lo t hp W' := by
  obtain ⟨n1, n2⟩ := h.fo.ne
  have := h.old
  exact ⟨⟨h.fo.node.chg hc (fun k hk e => by cases e; exact hk.elim n1 n2), h.fo.newer, ht⟩, h.chg.trans hc (fun _ _ h => h), h.old, h.point.chg hc (fun e => by omega), h.ent.chg hc (fun e => by omega)⟩
theorem Keeping.cells (h : Keeping w0 B gf g b n f lo t hp W) : W.cell? ⟨w0.heap.size, 0, none⟩ = some (.int .i64 lo) ∧ W.cell? ⟨w0.heap.size, 1, none⟩ = some (.int .i64 t) ∧ W.cell? ⟨w0.heap.size, 2, none⟩ = some (.int .i64 (hp + 1)) := ⟨h.point.cell 0, h.point.cell 1, h.point.cell 2⟩
theorem Keeping.ents (h : Keeping w0 B gf g b n f lo t hp W) : W.cell? ⟨w0.heap.size + 1, 0, none⟩ = some (.int .i64 lo) ∧ W.cell? ⟨w0.heap.size + 1, 1, none⟩ = some (.int .i64 (t - lo)) ∧ W.cell? ⟨w0.heap.size + 1, 2, none⟩ = some (.int .i64 (hp + 1)) := ⟨h.ent.cell 0, h.ent.cell 1, h.ent.cell 2⟩
theorem Keeping.done (h : Keeping w0 B gf g b n f lo t hp W) : ∃ cur : List Value, Holds W gf 67 cur.toArray ∧ 31 + (ptV lo t (hp + 1)).length ≤ cur.length ∧ FGoes B gf g b n { f with pl := lo, pg := t, ph := hp + 1 } w0 (W.setRow gf (splice cur 31 (ptV lo t (hp + 1))).toArray) := by
  obtain ⟨cur, h1, h2, h3⟩ := h.fo.put lo t (hp + 1)
  exact ⟨cur, h1, h2, FGoes.trans h.fo (h.chg.mono (fun k _ hk => .inl hk)) (.inl rfl) h3 h.chg.size⟩
end
set_option maxHeartbeats 2000000 in
set_option maxRecDepth 100000 in
theorem keep_any (w : World) (B gf g b n : Nat) (f : FS) (h : Fo w B gf g b n f) (t hp lo : Int) (hcan : canB t hp lo = true) :
    Calls Try.prog 24 #[.pointer (some ⟨gf, 0, none⟩), .agg #[.int .i64 lo, .int .i64 t, .int .i64 (hp + 1)]] w fun e w' => e = .returned (.tuple #[]) ∧ FGoes B gf g b n (f.keep t hp lo) w w' := by
  have hce := canE_of hcan
  obtain ⟨⟨h0, h1⟩, ⟨l0, l1⟩, ⟨t0, t1⟩⟩ := canB_iff.1 hcan
  have ew := IntWalk.i64_in (t - lo) (by omega)
  have hst := Keeping.start h lo t hp
  obtain ⟨V, hV⟩ : ∃ V, V = ((w.alloc (.cells #[.int .i64 lo, .int .i64 t, .int .i64 (hp + 1)] 65)).alloc (.cells #[.int .i64 lo, .int .i64 (t - lo), .int .i64 (hp + 1)] 42)) := ⟨_, rfl⟩
  rw [← hV] at hst
  have HK := Lib.hid hst.drew
  have hks := keep_step (L := f.L) hce
  obtain ⟨M, hM⟩ : ∃ M, keepL f.L (lo, t - lo, hp + 1) = M := ⟨_, rfl⟩
  unfold FS.keep
  rw [hM] at hks ⊢
  clear hcan hce h0 h1 l0 l1 t0 t1 h hst hM
  rcases hks with ⟨-, hs⟩ | ⟨-, hs1, hs2⟩
  · have hadd := add_step _ _ _ V.drew gf 6 _ _ _ f.L M 0 HK.out.fo.tab hs
    clear hs
    go_enter Try.func24, Try.ntmps24
    go_upto_region 2 with fail
    rw [← hV]
    clear hV
    refine region_turns (fun (w' : World) => w'.cell? ⟨w.heap.size + 1, 0, none⟩ = some (.int .i64 lo) ∧ w'.cell? ⟨w.heap.size + 1, 1, none⟩ = some (.int .i64 (t - lo)) ∧ w'.cell? ⟨w.heap.size + 1, 2, none⟩ = some (.int .i64 (hp + 1))) (fun j => decide (6 ≤ j)) (by kernel_rfl) (HK.out.ents) (fun hS => ?_)
    refine Turns.take hS 0 _ rfl (by kernel_rfl) (by kernel_rfl) (by kernel_rfl) (by kernel_rfl) (fun _ _ _ h => h) (by rfl) (fun w' hS' => by (try dsimp only at hS'); go_split_ands; go_simp; (try with_reducible rfl)) ?_
    simp only [Act.put, List.getElem_toArray, List.getElem_cons_succ, List.getElem_cons_zero, List.setIfInBounds_toArray, List.set_cons_zero, List.set_cons_succ]
    refine Turns.take hS 1 _ rfl (by kernel_rfl) (by kernel_rfl) (by kernel_rfl) (by kernel_rfl) (fun _ _ _ h => h) (by rfl) (fun w' hS' => by (try dsimp only at hS'); go_split_ands; go_simp; (try with_reducible rfl)) ?_
    simp only [Act.put, List.getElem_toArray, List.getElem_cons_succ, List.getElem_cons_zero, List.setIfInBounds_toArray, List.set_cons_zero, List.set_cons_succ]
    refine Turns.take hS 2 _ rfl (by kernel_rfl) (by kernel_rfl) (by kernel_rfl) (by kernel_rfl) (fun _ _ _ h => h) (by rfl) (fun w' hS' => by (try dsimp only at hS'); go_split_ands; go_simp; (try with_reducible rfl)) ?_
    simp only [Act.put, List.getElem_toArray, List.getElem_cons_succ, List.getElem_cons_zero, List.setIfInBounds_toArray, List.set_cons_zero, List.set_cons_succ]
    refine Turns.take hS 3 _ rfl (by kernel_rfl) (by kernel_rfl) (by kernel_rfl) (by kernel_rfl) (fun _ _ _ h => h) (by rfl) (fun w' hS' => by (try dsimp only at hS'); go_split_ands; go_simp; (try with_reducible rfl)) ?_
    simp only [Act.put, List.getElem_toArray, List.getElem_cons_succ, List.getElem_cons_zero, List.setIfInBounds_toArray, List.set_cons_zero, List.set_cons_succ]
    refine Turns.next 4 rfl (by kernel_rfl) (by rfl) (fun K hK => ?_)
    go_simp
    go_at_call 38
    refine hadd.mono ?_
    rintro e w1 ⟨rfl, ht, hch⟩
    have HK1 := Lib.hid (HK.out.tab ht hch)
    clear ht hch hadd
    refine hK.out _ _ (show (fun (w' : World) => w'.cell? ⟨w.heap.size + 1, 0, none⟩ = some (.int .i64 lo) ∧ w'.cell? ⟨w.heap.size + 1, 1, none⟩ = some (.int .i64 (t - lo)) ∧ w'.cell? ⟨w.heap.size + 1, 2, none⟩ = some (.int .i64 (hp + 1))) _ from HK1.out.ents) ?_
    clear hK K hS
    have hS := (show (fun (w' : World) => w'.cell? ⟨w.heap.size + 1, 0, none⟩ = some (.int .i64 lo) ∧ w'.cell? ⟨w.heap.size + 1, 1, none⟩ = some (.int .i64 (t - lo)) ∧ w'.cell? ⟨w.heap.size + 1, 2, none⟩ = some (.int .i64 (hp + 1))) _ from HK1.out.ents)
    refine Turns.take hS 5 _ rfl (by kernel_rfl) (by kernel_rfl) (by kernel_rfl) (by kernel_rfl) (fun _ _ _ h => h) (by rfl) (fun w' hS' => by (try dsimp only at hS'); go_split_ands; go_simp; (try with_reducible rfl)) ?_
    simp only [Act.put, List.getElem_toArray, List.getElem_cons_succ, List.getElem_cons_zero, List.setIfInBounds_toArray, List.set_cons_zero, List.set_cons_succ]
    refine Turns.rest (late_done (by kernel_rfl)) ?_
    refine any_tail 6 (by rfl) (by kernel_rfl) ?_
    simp only [List.drop_succ_cons, List.drop_zero]
    clear hS
    obtain ⟨p0, p1, p2⟩ := HK1.out.cells
    obtain ⟨cur, hcur, hfit, hgo⟩ := HK1.out.done
    have HH := Lib.hid hcur
    have HI := Lib.hid hfit
    have HG := Lib.hid hgo
    clear hcur hfit hgo
    go_wp2_with (refine wpList_store_at rfl 65 (.tmp 33) (.tmp 31) rfl gf 31 (ptV lo t (hp + 1)) rfl rfl 67 _ HH.out (by kernel_rfl) HI.out (ptV_one _ _ _) ?_)
    go_end0
    exact ⟨rfl, HG.out⟩
  · have hadd := add_step _ _ _ V.drew gf 6 _ _ _ f.L f.L 12 HK.out.fo.tab hs1
    clear hs1
    go_enter Try.func24, Try.ntmps24
    go_upto_region 2 with fail
    rw [← hV]
    clear hV
    refine region_turns (fun (w' : World) => w'.cell? ⟨w.heap.size + 1, 0, none⟩ = some (.int .i64 lo) ∧ w'.cell? ⟨w.heap.size + 1, 1, none⟩ = some (.int .i64 (t - lo)) ∧ w'.cell? ⟨w.heap.size + 1, 2, none⟩ = some (.int .i64 (hp + 1))) (fun j => decide (6 ≤ j)) (by kernel_rfl) (HK.out.ents) (fun hS => ?_)
    refine Turns.take hS 0 _ rfl (by kernel_rfl) (by kernel_rfl) (by kernel_rfl) (by kernel_rfl) (fun _ _ _ h => h) (by rfl) (fun w' hS' => by (try dsimp only at hS'); go_split_ands; go_simp; (try with_reducible rfl)) ?_
    simp only [Act.put, List.getElem_toArray, List.getElem_cons_succ, List.getElem_cons_zero, List.setIfInBounds_toArray, List.set_cons_zero, List.set_cons_succ]
    refine Turns.take hS 1 _ rfl (by kernel_rfl) (by kernel_rfl) (by kernel_rfl) (by kernel_rfl) (fun _ _ _ h => h) (by rfl) (fun w' hS' => by (try dsimp only at hS'); go_split_ands; go_simp; (try with_reducible rfl)) ?_
    simp only [Act.put, List.getElem_toArray, List.getElem_cons_succ, List.getElem_cons_zero, List.setIfInBounds_toArray, List.set_cons_zero, List.set_cons_succ]
    refine Turns.take hS 2 _ rfl (by kernel_rfl) (by kernel_rfl) (by kernel_rfl) (by kernel_rfl) (fun _ _ _ h => h) (by rfl) (fun w' hS' => by (try dsimp only at hS'); go_split_ands; go_simp; (try with_reducible rfl)) ?_
    simp only [Act.put, List.getElem_toArray, List.getElem_cons_succ, List.getElem_cons_zero, List.setIfInBounds_toArray, List.set_cons_zero, List.set_cons_succ]
    refine Turns.take hS 3 _ rfl (by kernel_rfl) (by kernel_rfl) (by kernel_rfl) (by kernel_rfl) (fun _ _ _ h => h) (by rfl) (fun w' hS' => by (try dsimp only at hS'); go_split_ands; go_simp; (try with_reducible rfl)) ?_
    simp only [Act.put, List.getElem_toArray, List.getElem_cons_succ, List.getElem_cons_zero, List.setIfInBounds_toArray, List.set_cons_zero, List.set_cons_succ]
    refine Turns.next 4 rfl (by kernel_rfl) (by rfl) (fun K hK => ?_)
    go_simp
    go_at_call 38
    refine hadd.mono ?_
    rintro e w1 ⟨rfl, ht, hch⟩
    have HK1 := Lib.hid (HK.out.tab ht hch)
    clear ht hch hadd
    refine hK.out _ _ (show (fun (w' : World) => w'.cell? ⟨w.heap.size + 1, 0, none⟩ = some (.int .i64 lo) ∧ w'.cell? ⟨w.heap.size + 1, 1, none⟩ = some (.int .i64 (t - lo)) ∧ w'.cell? ⟨w.heap.size + 1, 2, none⟩ = some (.int .i64 (hp + 1))) _ from HK1.out.ents) ?_
    clear hK K hS
    have hS := (show (fun (w' : World) => w'.cell? ⟨w.heap.size + 1, 0, none⟩ = some (.int .i64 lo) ∧ w'.cell? ⟨w.heap.size + 1, 1, none⟩ = some (.int .i64 (t - lo)) ∧ w'.cell? ⟨w.heap.size + 1, 2, none⟩ = some (.int .i64 (hp + 1))) _ from HK1.out.ents)
    refine Turns.take hS 5 _ rfl (by kernel_rfl) (by kernel_rfl) (by kernel_rfl) (by kernel_rfl) (fun _ _ _ h => h) (by rfl) (fun w' hS' => by (try dsimp only at hS'); go_split_ands; go_simp; (try with_reducible rfl)) ?_
    simp only [Act.put, List.getElem_toArray, List.getElem_cons_succ, List.getElem_cons_zero, List.setIfInBounds_toArray, List.set_cons_zero, List.set_cons_succ]
    refine Turns.rest (late_done (by kernel_rfl)) ?_
    refine any_tail 6 (by rfl) (by kernel_rfl) ?_
    simp only [List.drop_succ_cons, List.drop_zero]
    clear hS
    have hclr := clear_any w1 gf 6 _ _ _ _ HK1.out.fo.tab
    go_upto_region 4 with (go_at_call 37; refine hclr.mono ?_; rintro e w2 ⟨rfl, ht, hch⟩; have HK2 := Lib.hid (HK1.out.tab ht hch).drew; clear ht hch hclr)
    have hadd := add_step _ _ _ w2.drew gf 6 _ _ _ [] M 0 HK2.out.fo.tab hs2
    clear hs2
    refine region_turns (fun (w' : World) => w'.cell? ⟨w.heap.size + 1, 0, none⟩ = some (.int .i64 lo) ∧ w'.cell? ⟨w.heap.size + 1, 1, none⟩ = some (.int .i64 (t - lo)) ∧ w'.cell? ⟨w.heap.size + 1, 2, none⟩ = some (.int .i64 (hp + 1))) (fun j => decide (5 ≤ j)) (by kernel_rfl) (HK2.out.ents) (fun hS => ?_)
    refine Turns.take hS 0 _ rfl (by kernel_rfl) (by kernel_rfl) (by kernel_rfl) (by kernel_rfl) (fun _ _ _ h => h) (by rfl) (fun w' hS' => by (try dsimp only at hS'); go_split_ands; go_simp; (try with_reducible rfl)) ?_
    simp only [Act.put, List.getElem_toArray, List.getElem_cons_succ, List.getElem_cons_zero, List.setIfInBounds_toArray, List.set_cons_zero, List.set_cons_succ]
    refine Turns.take hS 1 _ rfl (by kernel_rfl) (by kernel_rfl) (by kernel_rfl) (by kernel_rfl) (fun _ _ _ h => h) (by rfl) (fun w' hS' => by (try dsimp only at hS'); go_split_ands; go_simp; (try with_reducible rfl)) ?_
    simp only [Act.put, List.getElem_toArray, List.getElem_cons_succ, List.getElem_cons_zero, List.setIfInBounds_toArray, List.set_cons_zero, List.set_cons_succ]
    refine Turns.take hS 2 _ rfl (by kernel_rfl) (by kernel_rfl) (by kernel_rfl) (by kernel_rfl) (fun _ _ _ h => h) (by rfl) (fun w' hS' => by (try dsimp only at hS'); go_split_ands; go_simp; (try with_reducible rfl)) ?_
    simp only [Act.put, List.getElem_toArray, List.getElem_cons_succ, List.getElem_cons_zero, List.setIfInBounds_toArray, List.set_cons_zero, List.set_cons_succ]
    refine Turns.take hS 3 _ rfl (by kernel_rfl) (by kernel_rfl) (by kernel_rfl) (by kernel_rfl) (fun _ _ _ h => h) (by rfl) (fun w' hS' => by (try dsimp only at hS'); go_split_ands; go_simp; (try with_reducible rfl)) ?_
    simp only [Act.put, List.getElem_toArray, List.getElem_cons_succ, List.getElem_cons_zero, List.setIfInBounds_toArray, List.set_cons_zero, List.set_cons_succ]
    refine Turns.next 4 rfl (by kernel_rfl) (by rfl) (fun K hK => ?_)
    go_simp
    go_at_call 38
    refine hadd.mono ?_
    rintro e w3 ⟨rfl, ht, hch⟩
    have HK3 := Lib.hid (HK2.out.tab ht hch)
    clear ht hch hadd
    refine hK.out _ _ (show (fun (w' : World) => w'.cell? ⟨w.heap.size + 1, 0, none⟩ = some (.int .i64 lo) ∧ w'.cell? ⟨w.heap.size + 1, 1, none⟩ = some (.int .i64 (t - lo)) ∧ w'.cell? ⟨w.heap.size + 1, 2, none⟩ = some (.int .i64 (hp + 1))) _ from HK3.out.ents) ?_
    clear hK K hS
    have hS := (show (fun (w' : World) => w'.cell? ⟨w.heap.size + 1, 0, none⟩ = some (.int .i64 lo) ∧ w'.cell? ⟨w.heap.size + 1, 1, none⟩ = some (.int .i64 (t - lo)) ∧ w'.cell? ⟨w.heap.size + 1, 2, none⟩ = some (.int .i64 (hp + 1))) _ from HK3.out.ents)
    refine Turns.rest (late_done (by kernel_rfl)) ?_
    refine any_tail 5 (by rfl) (by kernel_rfl) ?_
    simp only [List.drop_succ_cons, List.drop_zero]
    clear hS
    obtain ⟨p0, p1, p2⟩ := HK3.out.cells
    obtain ⟨cur, hcur, hfit, hgo⟩ := HK3.out.done
    have HH := Lib.hid hcur
    have HI := Lib.hid hfit
    have HG := Lib.hid hgo
    clear hcur hfit hgo
    go_wp2_with (refine wpList_store_at rfl 65 (.tmp 33) (.tmp 31) rfl gf 31 (ptV lo t (hp + 1)) rfl rfl 67 _ HH.out (by kernel_rfl) HI.out (ptV_one _ _ _) ?_)
    go_end0
    exact ⟨rfl, HG.out⟩
end Go.Proofs.Ytgmeakcfiaopcaa

/- Package flood: Hear, Boot. -/
namespace Go.Proofs.Ytgmeakcfiaopcaa
open Go.RowKit
set_option linter.unusedVariables false
set_option linter.unusedSimpArgs false

/-- While a call of a node goes on: a variable of the call's own is the block behind all that was. -/
structure Fw (w0 : World) (B gf g b : Nat) (T : TypeId) (C : Array Value) (f : FS) (b' n' : Nat) (W : World) : Prop where
  fo : Fo W B gf g b' n' f
  chg : Chg (fpart gf g b) w0 W
  mv : b' = b ∨ w0.heap.size ≤ b'
  old : gf < w0.heap.size ∧ g < w0.heap.size ∧ b < w0.heap.size
  box : Holds W w0.heap.size T C
section
variable {w0 W W' : World} {B gf g b n n' n2 b' : Nat} {f f' : FS} {T : TypeId} {C : Array Value}
theorem Fw.start (h : Fo w0 B gf g b n f) (T : TypeId) (C : Array Value) : Fw w0 B gf g b T C f b n (w0.alloc (.cells C T)) :=
  ⟨h.below (below_alloc _ _), Chg.of_below _ (below_alloc _ _), .inl rfl, ⟨h.lt, h.node.lt, h.node.ltb⟩, Holds.new _ _ _⟩
theorem Fw.below (h : Fw w0 B gf g b T C f b' n' W) (hb : Below W.heap.size W W') : Fw w0 B gf g b T C f b' n' W' :=
  ⟨h.fo.below hb, h.chg.trans (Chg.of_below (fun _ => False) hb) (fun _ _ h => h.elim), h.mv, h.old, h.box.below hb h.box.lt⟩
theorem Fw.drewN (h : Fw w0 B gf g b T C f b' n' W) (m : Nat) : Fw w0 B gf g b T C f b' n' (W.drewN m) := h.below (below_drewN (Below.refl _ _) m)
theorem Fw.drew (h : Fw w0 B gf g b T C f b' n' W) : Fw w0 B gf g b T C f b' n' W.drew := h.drewN 1
theorem Fw.goes (h : Fw w0 B gf g b T C f b' n' W) (hg : FGoes B gf g b' n2 f' W W') : ∃ b2, Fw w0 B gf g b T C f' b2 n2 W' := by
  obtain ⟨b2, h1, h2, h3⟩ := hg
  obtain ⟨o1, o2, o3⟩ := h.old
  have hs := h.chg.size
  have hap := h.fo.node.km.apart h.box
  refine ⟨b2, h1, h.chg.trans h2 (fun k hk hk2 => ?_), ?_, h.old, h.box.chg h2 (fun hk => ?_)⟩
  · rcases hk2 with e | e | e
    · exact .inl e
    · exact .inr (.inl e)
    · rcases h.mv with k1 | k1
      · exact .inr (.inr (e.trans k1))
      · omega
  · rcases h3 with k2 | k2
    · rw [k2]
      exact h.mv
    · exact .inr (Nat.le_trans hs k2)
  · rcases hk with e | e | e
    · omega
    · omega
    · exact hap e
theorem Fw.end (h : Fw w0 B gf g b T C f b' n' W) : FGoes B gf g b n' f w0 W := ⟨b', h.fo, h.chg, h.mv⟩
end
/-- What Hear answers, and what becomes of the node. -/
def FHeard (B gf g b n : Nat) (f : FS) (r x q t hp lo : Int) (w : World) (e : Ending) (w' : World) : Prop := e = .returned (.int .i64 (hearFV f r x q t hp lo)) ∧ FGoes B gf g b (n + 1) (hearFS f r x q t hp lo) w w'
theorem fhear_nil (w : World) (fr r x q hp t lo : Int) : Calls Try.prog 10 #[.pointer none, .agg #[.int .i64 fr, .int .i64 r, .int .u16 x, .int .u16 q, .int .i64 hp, .int .i64 t], .int .i64 lo] w fun e w' => e = .returned (.int .i64 0) ∧ Below w.heap.size w w' := by
  have hb := below_alloc w (.cells #[.int .i64 fr, .int .i64 r, .int .u16 x, .int .u16 q, .int .i64 hp, .int .i64 t] 48)
  go_enter Try.func10, Try.ntmps10
  go_wp2
  go_ret
  exact ⟨rfl, hb⟩
set_option maxHeartbeats 2000000 in
set_option maxRecDepth 100000 in
theorem fhear_any (w : World) (B gf g b n : Nat) (f : FS) (h : Fo w B gf g b n f) (hI : FInv f) (hn : n ≤ 100000) (fr r x q hp t lo : Int) (hr : Fits r) (hx : F16 x) (hq : F16 q) :
    Calls Try.prog 10 #[.pointer (some ⟨gf, 0, none⟩), .agg #[.int .i64 fr, .int .i64 r, .int .u16 x, .int .u16 q, .int .i64 hp, .int .i64 t], .int .i64 lo] w (FHeard B gf g b n f r x q t hp lo w) := by
  obtain ⟨C, hC⟩ : ∃ C, C = (#[.int .i64 fr, .int .i64 r, .int .u16 x, .int .u16 q, .int .i64 hp, .int .i64 t] : Array Value) := ⟨_, rfl⟩
  have hst := Fw.start h 48 C
  have hbx : ∀ W b' n' f', Fw w B gf g b 48 C f' b' n' W → W.cell? ⟨w.heap.size, 1, none⟩ = some (.int .i64 r) ∧ W.cell? ⟨w.heap.size, 2, none⟩ = some (.int .u16 x) ∧ W.cell? ⟨w.heap.size, 3, none⟩ = some (.int .u16 q) ∧ W.cell? ⟨w.heap.size, 4, none⟩ = some (.int .i64 hp) ∧ W.cell? ⟨w.heap.size, 5, none⟩ = some (.int .i64 t) := fun W b' n' f' hw => by
    have hh := hw.box
    rw [hC] at hh
    exact ⟨hh.cell 1, hh.cell 2, hh.cell 3, hh.cell 4, hh.cell 5⟩
  have hl := fun W => ftime_any lo W
  have ht := fun W => ftime_any t W
  unfold FHeard hearFS hearFV
  have HX := Lib.hid hbx
  obtain ⟨V, hV⟩ : ∃ V, V = w.alloc (.cells #[.int .i64 fr, .int .i64 r, .int .u16 x, .int .u16 q, .int .i64 hp, .int .i64 t] 48) := ⟨_, rfl⟩
  have hst : Fw w B gf g b 48 C f b n V := by rw [hV, ← hC]; exact hst
  obtain ⟨x1, x2, x3, x4, x5⟩ := hbx _ _ _ _ hst
  have HV := Lib.hid hst
  cases hc : canB t hp lo with
  | false =>
    have hcase : decide (hp < 0) = true ∨ decide (hp < 0) = false ∧ decide (63 ≤ hp) = true ∨ decide (hp < 0) = false ∧ decide (63 ≤ hp) = false ∧ timeB lo = false ∨ decide (hp < 0) = false ∧ decide (63 ≤ hp) = false ∧ timeB lo = true ∧ timeB t = false := by
      unfold canB at hc
      by_cases h1 : hp < 0 <;> by_cases h2 : 63 ≤ hp <;> cases h3 : timeB lo <;> cases h4 : timeB t <;> simp [h1, h2, h3, h4] at hc ⊢
    obtain ⟨T1, hT1⟩ : ∃ T1, timeB lo = T1 := ⟨_, rfl⟩
    obtain ⟨T2, hT2⟩ : ∃ T2, timeB t = T2 := ⟨_, rfl⟩
    simp only [hT1, hT2] at hl ht hcase
    have HG : Hid (FGoes B gf g b (n + 1) f w V) := Lib.hid ((FGoes.refl h).of_below (by rw [hV]; exact below_alloc _ _) |>.mono (Nat.le_succ n))
    clear hst hbx h hc hI hT1 hT2
    rw [hV] at x1 x2 x3 x4 x5
    rcases hcase with d1 | ⟨d1, d2⟩ | ⟨d1, d2, rfl⟩ | ⟨d1, d2, rfl, rfl⟩
    all_goals
      go_enter Try.func10, Try.ntmps10
      go_wp2_with (first
        | (go_at_call 21; (with_reducible refine (hl _).mono ?_); rintro e wx ⟨rfl, hwx⟩; subst wx)
        | (go_at_call 21; (with_reducible refine (ht _).mono ?_); rintro e wx ⟨rfl, hwx⟩; subst wx))
      go_ret
      refine ⟨rfl, ?_⟩
      have := HG.out
      rw [hV] at this
      simpa using this
  | true =>
    obtain ⟨⟨h0, h1⟩, hlo, hti⟩ := canB_iff.1 hc
    have d1 : decide (hp < 0) = false := decide_eq_false (by omega)
    have d2 : decide (63 ≤ hp) = false := decide_eq_false (by omega)
    have e5 := IntWalk.i64_in (hp + 1) (by omega)
    simp only [(timeB_iff lo).2 hlo] at hl
    simp only [(timeB_iff t).2 hti] at ht
    have hkeep := fun W b' n' f' (hw : Fw w B gf g b 48 C f' b' n' W) => keep_any W B gf g b' n' f' hw.fo t hp lo hc
    have HKp := Lib.hid hkeep
    have HFg := Lib.hid (fun W b' n' f' (hw : Fw w B gf g b 48 C f' b' n' W) => forget_any W B gf g b' n' f' hw.fo)
    obtain ⟨S, hS⟩ : ∃ S, hearS f.s r x q = S := ⟨_, rfl⟩
    obtain ⟨D, hD⟩ : ∃ D, hearV f.s r x q = D := ⟨_, rfl⟩
    have hrul := hear_rules f.s r x q
    have hways := hear_ways r x q hI.s
    have hvals : hearV f.s r x q = 0 ∨ hearV f.s r x q = 1 ∨ hearV f.s r x q = 2 := by
      unfold hearV
      split
      · split
        · exact .inr (.inr rfl)
        · exact .inr (.inl rfl)
      · exact .inl rfl
    have hsame : D = 0 → f.at S = f := fun e => by
      rcases hways with ⟨-, k⟩ | ⟨k, -⟩
      · rw [← hS, k]
        rfl
      · rw [hD, e] at k
        exact absurd k (by decide)
    rw [hS] at hrul
    rw [hD] at hvals
    have HHr := Lib.hid (hear_at (HV.out.drew).fo.node hn r x q (wf_of (by have := hr.1; omega) (by have := hr.2; omega)) hx hq hD hS)
    rw [hD, hS]
    have HSm := Lib.hid hsame
    have HRu := Lib.hid hrul
    clear hkeep hst hbx h hc hI hD hS hways hsame hrul h0 h1 hlo hti hr hx hq
    have hvd := HX.out _ _ _ _ HV.out.drew
    have g0 := HV.out.drew.fo.cells.1
    rw [hV] at x1 x2 x3 x4 x5
    go_enter Try.func10, Try.ntmps10
    go_upto_region 3 with (first
        | (go_at_call 21; (with_reducible refine (hl _).mono ?_); rintro e wx ⟨rfl, hwx⟩; subst wx)
        | (go_at_call 21; (with_reducible refine (ht _).mono ?_); rintro e wx ⟨rfl, hwx⟩; subst wx))
    rw [← hV]
    clear hV x1 x2 x3 x4 x5
    refine region_turns (fun (w' : World) => w'.cell? ⟨gf, 0, none⟩ = some (.pointer (some ⟨g, 0, none⟩)) ∧ w'.cell? ⟨w.heap.size, 1, none⟩ = some (.int .i64 r) ∧ w'.cell? ⟨w.heap.size, 2, none⟩ = some (.int .u16 x) ∧ w'.cell? ⟨w.heap.size, 3, none⟩ = some (.int .u16 q)) (fun j => decide (13 ≤ j)) (by kernel_rfl) (⟨g0, hvd.1, hvd.2.1, hvd.2.2.1⟩) (fun hS => ?_)
    refine Turns.take hS 0 _ rfl (by kernel_rfl) (by kernel_rfl) (by kernel_rfl) (by kernel_rfl) (fun _ _ _ h => h) (by rfl) (fun w' hS' => by (try dsimp only at hS'); go_split_ands; go_simp; (try with_reducible rfl)) ?_
    simp only [Act.put, List.getElem_toArray, List.getElem_cons_succ, List.getElem_cons_zero, List.setIfInBounds_toArray, List.set_cons_zero, List.set_cons_succ]
    refine Turns.take hS 1 _ rfl (by kernel_rfl) (by kernel_rfl) (by kernel_rfl) (by kernel_rfl) (fun _ _ _ h => h) (by rfl) (fun w' hS' => by (try dsimp only at hS'); go_split_ands; go_simp; (try with_reducible rfl)) ?_
    simp only [Act.put, List.getElem_toArray, List.getElem_cons_succ, List.getElem_cons_zero, List.setIfInBounds_toArray, List.set_cons_zero, List.set_cons_succ]
    refine Turns.take hS 2 _ rfl (by kernel_rfl) (by kernel_rfl) (by kernel_rfl) (by kernel_rfl) (fun _ _ _ h => h) (by rfl) (fun w' hS' => by (try dsimp only at hS'); go_split_ands; go_simp; (try with_reducible rfl)) ?_
    simp only [Act.put, List.getElem_toArray, List.getElem_cons_succ, List.getElem_cons_zero, List.setIfInBounds_toArray, List.set_cons_zero, List.set_cons_succ]
    refine Turns.take hS 3 _ rfl (by kernel_rfl) (by kernel_rfl) (by kernel_rfl) (by kernel_rfl) (fun _ _ _ h => h) (by rfl) (fun w' hS' => by (try dsimp only at hS'); go_split_ands; go_simp; (try with_reducible rfl)) ?_
    simp only [Act.put, List.getElem_toArray, List.getElem_cons_succ, List.getElem_cons_zero, List.setIfInBounds_toArray, List.set_cons_zero, List.set_cons_succ]
    refine Turns.take hS 4 _ rfl (by kernel_rfl) (by kernel_rfl) (by kernel_rfl) (by kernel_rfl) (fun _ _ _ h => h) (by rfl) (fun w' hS' => by (try dsimp only at hS'); go_split_ands; go_simp; (try with_reducible rfl)) ?_
    simp only [Act.put, List.getElem_toArray, List.getElem_cons_succ, List.getElem_cons_zero, List.setIfInBounds_toArray, List.set_cons_zero, List.set_cons_succ]
    refine Turns.take hS 5 _ rfl (by kernel_rfl) (by kernel_rfl) (by kernel_rfl) (by kernel_rfl) (fun _ _ _ h => h) (by rfl) (fun w' hS' => by (try dsimp only at hS'); go_split_ands; go_simp; (try with_reducible rfl)) ?_
    simp only [Act.put, List.getElem_toArray, List.getElem_cons_succ, List.getElem_cons_zero, List.setIfInBounds_toArray, List.set_cons_zero, List.set_cons_succ]
    refine Turns.take hS 6 _ rfl (by kernel_rfl) (by kernel_rfl) (by kernel_rfl) (by kernel_rfl) (fun _ _ _ h => h) (by rfl) (fun w' hS' => by (try dsimp only at hS'); go_split_ands; go_simp; (try with_reducible rfl)) ?_
    simp only [Act.put, List.getElem_toArray, List.getElem_cons_succ, List.getElem_cons_zero, List.setIfInBounds_toArray, List.set_cons_zero, List.set_cons_succ]
    refine Turns.take hS 7 _ rfl (by kernel_rfl) (by kernel_rfl) (by kernel_rfl) (by kernel_rfl) (fun _ _ _ h => h) (by rfl) (fun w' hS' => by (try dsimp only at hS'); go_split_ands; go_simp; (try with_reducible rfl)) ?_
    simp only [Act.put, List.getElem_toArray, List.getElem_cons_succ, List.getElem_cons_zero, List.setIfInBounds_toArray, List.set_cons_zero, List.set_cons_succ]
    refine Turns.take hS 8 _ rfl (by kernel_rfl) (by kernel_rfl) (by kernel_rfl) (by kernel_rfl) (fun _ _ _ h => h) (by rfl) (fun w' hS' => by (try dsimp only at hS'); go_split_ands; go_simp; (try with_reducible rfl)) ?_
    simp only [Act.put, List.getElem_toArray, List.getElem_cons_succ, List.getElem_cons_zero, List.setIfInBounds_toArray, List.set_cons_zero, List.set_cons_succ]
    refine Turns.take hS 9 _ rfl (by kernel_rfl) (by kernel_rfl) (by kernel_rfl) (by kernel_rfl) (fun _ _ _ h => h) (by rfl) (fun w' hS' => by (try dsimp only at hS'); go_split_ands; go_simp; (try with_reducible rfl)) ?_
    simp only [Act.put, List.getElem_toArray, List.getElem_cons_succ, List.getElem_cons_zero, List.setIfInBounds_toArray, List.set_cons_zero, List.set_cons_succ]
    refine Turns.take hS 10 _ rfl (by kernel_rfl) (by kernel_rfl) (by kernel_rfl) (by kernel_rfl) (fun _ _ _ h => h) (by rfl) (fun w' hS' => by (try dsimp only at hS'); go_split_ands; go_simp; (try with_reducible rfl)) ?_
    simp only [Act.put, List.getElem_toArray, List.getElem_cons_succ, List.getElem_cons_zero, List.setIfInBounds_toArray, List.set_cons_zero, List.set_cons_succ]
    refine Turns.next 11 rfl (by kernel_rfl) (by rfl) (fun K hK => ?_)
    go_simp
    go_at_call 22
    refine HHr.out.mono ?_
    rintro e w4 ⟨rfl, hg4⟩
    obtain ⟨b4, hW4⟩ := HV.out.drew.goes (HV.out.drew.fo.node_goes hg4 HRu.out)
    have HW4 := Lib.hid hW4
    have hv4 := HX.out _ _ _ _ hW4
    have g4 := hW4.fo.cells.1
    clear hg4 hW4
    refine hK.out _ _ (show (fun (w' : World) => w'.cell? ⟨gf, 0, none⟩ = some (.pointer (some ⟨g, 0, none⟩)) ∧ w'.cell? ⟨w.heap.size, 1, none⟩ = some (.int .i64 r) ∧ w'.cell? ⟨w.heap.size, 2, none⟩ = some (.int .u16 x) ∧ w'.cell? ⟨w.heap.size, 3, none⟩ = some (.int .u16 q)) _ from ⟨g4, hv4.1, hv4.2.1, hv4.2.2.1⟩) ?_
    clear hK K hS
    have hS := (show (fun (w' : World) => w'.cell? ⟨gf, 0, none⟩ = some (.pointer (some ⟨g, 0, none⟩)) ∧ w'.cell? ⟨w.heap.size, 1, none⟩ = some (.int .i64 r) ∧ w'.cell? ⟨w.heap.size, 2, none⟩ = some (.int .u16 x) ∧ w'.cell? ⟨w.heap.size, 3, none⟩ = some (.int .u16 q)) _ from ⟨g4, hv4.1, hv4.2.1, hv4.2.2.1⟩)
    refine Turns.take hS 12 _ rfl (by kernel_rfl) (by kernel_rfl) (by kernel_rfl) (by kernel_rfl) (fun _ _ _ h => h) (by rfl) (fun w' hS' => by (try dsimp only at hS'); go_split_ands; go_simp; (try with_reducible rfl)) ?_
    simp only [Act.put, List.getElem_toArray, List.getElem_cons_succ, List.getElem_cons_zero, List.setIfInBounds_toArray, List.set_cons_zero, List.set_cons_succ]
    refine Turns.rest (late_done (by kernel_rfl)) ?_
    refine any_tail 13 (by rfl) (by kernel_rfl) ?_
    simp only [List.drop_succ_cons, List.drop_zero]
    clear hS
    have z4 := hv4.2.2.2.1
    have z5 := hv4.2.2.2.2
    clear hvd g0 hv4
    rcases hvals with rfl | rfl | rfl
    · go_wp2
      go_ret
      refine ⟨rfl, ?_⟩
      have := HW4.out.end
      rw [HSm.out (by trivial)] at this
      exact this
    · have hk := HKp.out _ _ _ _ HW4.out
      go_wp2_with (go_at_call 24; refine hk.mono ?_; rintro e w5 ⟨rfl, hg5⟩; obtain ⟨b5, hW5⟩ := HW4.out.goes hg5; have HW5 := Lib.hid hW5; clear hg5 hW5 hk)
      go_ret
      exact ⟨rfl, HW5.out.end⟩
    · have hfg := HFg.out _ _ _ _ HW4.out
      go_wp2_with (first
        | (go_at_call 23; refine hfg.mono ?_; rintro e w5 ⟨rfl, hg5⟩; obtain ⟨b5, hW5⟩ := HW4.out.goes hg5; have HW5 := Lib.hid hW5; have hk := HKp.out _ _ _ _ hW5; have hv5 := HX.out _ _ _ _ hW5; have y4 := hv5.2.2.2.1; have y5 := hv5.2.2.2.2; clear hg5 hW5 hfg hv5)
        | (go_at_call 24; refine hk.mono ?_; rintro e w6 ⟨rfl, hg6⟩; obtain ⟨b6, hW6⟩ := HW5.out.goes hg6; have HW6 := Lib.hid hW6; clear hg6 hW6 hk))
      go_ret
      exact ⟨rfl, HW6.out.end⟩
end Go.Proofs.Ytgmeakcfiaopcaa

/- Package flood: Time. -/
namespace Go.Proofs.Ytgmeakcfiaopcaa
open Go.RowKit
set_option linter.unusedVariables false
set_option linter.unusedSimpArgs false

theorem ftime_nil (w : World) (lo : Int) : Calls Try.prog 42 #[.pointer none, .int .i64 lo] w fun e w' => e = .returned (.tuple #[.int .i64 0, .int .i64 0, .int .i64 2]) ∧ w = w' := by
  go_enter Try.func42, Try.ntmps42
  go_wp2
  go_ret3
  exact ⟨rfl, rfl⟩
set_option maxHeartbeats 1000000 in
set_option maxRecDepth 100000 in
theorem ftell_any (w : World) (B gf g b n : Nat) (f : FS) (h : Fo w B gf g b n f) (hI : FInv f) (lo g' hp v : Int) (hs : Tells f lo g' hp v) :
    Calls Try.prog 42 #[.pointer (some ⟨gf, 0, none⟩), .int .i64 lo] w fun e w' => e = .returned (.tuple #[.int .i64 g', .int .i64 hp, .int .i64 v]) ∧ Below w.heap.size w w' := by
  have hsy := synced_any w B gf g b n f h
  have ht := fun W => ftime_any lo W
  have HF := Lib.hid (fun V (hb : Below w.heap.size w V) => h.below hb)
  have HMi := Lib.hid (fun V (hw : Fo V B gf g b n f) => mine_at hw.node (v := minB f) rfl)
  have HB0 := Lib.hid (Below.refl w.heap.size w)
  rcases hs with ⟨e1, rfl, rfl, rfl⟩ | ⟨e1, e2, rfl, rfl, rfl⟩ | ⟨e1, e2, e3, rfl, rfl, rfl⟩ | ⟨e1, e2, e3, G, ok, hg, hout⟩
  · simp only [e1] at hsy
    clear h hI e1
    go_enter Try.func42, Try.ntmps42
    go_wp2_with (go_at_call 15; (with_reducible refine hsy.mono ?_); rintro e wx ⟨rfl, nq, rfl⟩)
    go_ret3
    exact ⟨rfl, below_drewN HB0.out nq⟩
  · simp only [e1] at hsy
    simp only [e2] at ht
    clear h hI e1 e2
    go_enter Try.func42, Try.ntmps42
    go_wp2_with (first
      | (go_at_call 15; (with_reducible refine hsy.mono ?_); rintro e wx ⟨rfl, nq, rfl⟩)
      | (go_at_call 21; (with_reducible refine (ht _).mono ?_); rintro e wx ⟨rfl, hwx⟩; subst wx))
    go_ret3
    exact ⟨rfl, below_drewN HB0.out nq⟩
  · simp only [e1] at hsy
    simp only [e2] at ht
    simp only [e3] at HMi
    clear h hI e1 e2 e3
    go_enter Try.func42, Try.ntmps42
    go_wp2_with (first
      | (go_at_call 15; (with_reducible refine hsy.mono ?_); rintro e wx ⟨rfl, nq, rfl⟩; have hF := HF.out _ (below_drewN HB0.out nq); have k0 := hF.cells.1; have hmi := HMi.out _ hF; clear hF)
      | (go_at_call 21; (with_reducible refine (ht _).mono ?_); rintro e wx ⟨rfl, hwx⟩; subst wx)
      | (go_at_call 17; (with_reducible refine hmi.mono ?_); rintro e wx ⟨rfl, nr, rfl⟩))
    go_ret3
    exact ⟨rfl, by first | exact below_drewN HB0.out _ | exact below_drewN (below_drewN HB0.out _) _⟩
  · have hL := syn_some hI e3 e1
    have hmo := map_ok f.drift hI.ents hL
    have HOf := Lib.hid (fun V (hw : Fo V B gf g b n f) => globe_some f.drift V _ f.L hw.tab.src hL hI.ents.can)
    have HGl := Lib.hid (fun V => global_any _ _ _ _ _ _ (mostL f.L) lo G ok V hmo hg)
    simp only [e1] at hsy
    simp only [e2] at ht
    simp only [e3] at HMi
    have hdr : ∀ V, Fo V B gf g b n f → V.cell? ⟨gf, 5, none⟩ = some (.int .i64 f.drift) := fun V hV => hV.cells.2.2.2.1
    have HD := Lib.hid hdr
    unfold mapOf at HOf
    obtain ⟨l, hl⟩ : ∃ l, locV f.L = l := ⟨_, rfl⟩
    obtain ⟨o, ho⟩ : ∃ o, offV f.L = o := ⟨_, rfl⟩
    obtain ⟨x, hx⟩ : ∃ x, (ofV f.drift f.L).1 = x := ⟨_, rfl⟩
    obtain ⟨y, hy⟩ : ∃ y, (ofV f.drift f.L).2 = y := ⟨_, rfl⟩
    obtain ⟨m, hm⟩ : ∃ m, mostL f.L = m := ⟨_, rfl⟩
    simp only [hl, ho, hx, hy, hm] at HOf HGl hout
    unfold mapV at HOf HGl
    clear h hI e1 e2 e3 hL hmo hg hdr hl ho hx hy hm
    go_enter Try.func42, Try.ntmps42
    go_upto_region 9 with (first
      | (go_at_call 15; (with_reducible refine hsy.mono ?_); rintro e wx ⟨rfl, nq, rfl⟩; have hF := HF.out _ (below_drewN HB0.out nq); have k0 := hF.cells.1; have hmi := HMi.out _ hF; clear hF)
      | (go_at_call 21; (with_reducible refine (ht _).mono ?_); rintro e wx ⟨rfl, hwx⟩; subst wx)
      | (go_at_call 17; (with_reducible refine hmi.mono ?_); rintro e wx ⟨rfl, nr, rfl⟩))
    have hbV : Below w.heap.size w (w.drewN (nq + nr)) := below_drewN HB0.out _
    clear k0 hmi hsy
    generalize w.drewN (nq + nr) = V at *
    have hb1 := hbV.drew
    have hF1 := HF.out _ hb1
    have d1 := HD.out _ hF1
    have of1 := HOf.out _ hF1
    have hb2 := (hbV.alloc (o := .cells #[.int .i64 0, .int .i64 0, .int .i64 0, .int .i64 0, .int .i64 0] 109) hbV.size).drew
    have hF2 := HF.out _ hb2
    have d2 := HD.out _ hF2
    have of2 := HOf.out _ hF2
    have HB1 := Lib.hid hb1
    have HB2 := Lib.hid hb2
    have hwV := hbV.size
    clear hb1 hb2 hF1 hF2 hbV
    go_region_with (first
      | (go_at_call 50; (with_reducible refine of1.mono ?_); rintro e w8 ⟨rfl, hb8⟩; have HB8 := Lib.hid (HB1.out.trans (hb8.mono HB1.out.size)))
      | (go_at_call 50; (with_reducible refine of2.mono ?_); rintro e w8 ⟨rfl, hb8⟩; have HB8 := Lib.hid (HB2.out.trans (hb8.mono HB2.out.size)); have HN := Lib.hid (Holds.below (show Holds (V.alloc (.cells #[.int .i64 0, .int .i64 0, .int .i64 0, .int .i64 0, .int .i64 0] 109)).drew V.heap.size 109 #[.int .i64 0, .int .i64 0, .int .i64 0, .int .i64 0, .int .i64 0] from (Holds.new V _ _).drewN 1) hb8 (Holds.lt (show Holds (V.alloc (.cells #[.int .i64 0, .int .i64 0, .int .i64 0, .int .i64 0, .int .i64 0] 109)).drew V.heap.size 109 #[.int .i64 0, .int .i64 0, .int .i64 0, .int .i64 0, .int .i64 0] from (Holds.new V _ _).drewN 1))); have x0 := HN.out.cell 0; have x1 := HN.out.cell 1; have x2 := HN.out.cell 2; have x3 := HN.out.cell 3; have x4 := HN.out.cell 4; have s0 := HN.out.soft 0; have s1 := HN.out.soft 1; have s2 := HN.out.soft 2; have s3 := HN.out.soft 3; have s4 := HN.out.soft 4))
    · obtain ⟨W9, hW9⟩ : ∃ W9, W9 = w8.alloc (.cells #[.int .i64 l, .int .i64 o, .int .i64 x, .int .i64 y, .int .i64 m] 109) := ⟨_, rfl⟩
      have HM : Hid (Holds W9 w8.heap.size 109 #[.int .i64 l, .int .i64 o, .int .i64 x, .int .i64 y, .int .i64 m]) := Lib.hid (by rw [hW9]; exact Holds.new _ _ _)
      have HBz : Hid (Below w.heap.size w W9) := Lib.hid (by rw [hW9]; exact HB8.out.alloc HB8.out.size _)
      rw [← hW9]
      have m0 := HM.out.cell 0
      have m1 := HM.out.cell 1
      have m2 := HM.out.cell 2
      have m3 := HM.out.cell 3
      have m4 := HM.out.cell 4
      clear hW9
      rcases hout with ⟨rfl, rfl, rfl, rfl⟩ | ⟨rfl, rfl, rfl, rfl⟩
      · go_upto_region 13 with (go_at_call 51; (with_reducible refine (HGl.out _).mono ?_); rintro e w10 ⟨rfl, hb10⟩; have HMz := Lib.hid (HM.out.below hb10 HM.out.lt); have HBy := Lib.hid (HBz.out.trans (hb10.mono HBz.out.size)); have n4 := HMz.out.cell 4; clear hb10 m0 m1 m2 m3 m4)
        go_quiet (fail)
        go_wp2
        go_ret3
        exact ⟨rfl, below_drewN HBy.out _⟩
      · go_wp2_with (go_at_call 51; (with_reducible refine (HGl.out _).mono ?_); rintro e w10 ⟨rfl, hb10⟩; have HBy := Lib.hid (HBz.out.trans (hb10.mono HBz.out.size)); clear hb10 m0 m1 m2 m3 m4)
        go_ret3
        exact ⟨rfl, HBy.out⟩
    · obtain ⟨W9, hW9⟩ : ∃ W9, W9 = (((((w8.setCell ⟨V.heap.size, 0, none⟩ (.int .i64 l)).setCell ⟨V.heap.size, 1, none⟩ (.int .i64 o)).setCell ⟨V.heap.size, 2, none⟩ (.int .i64 x)).setCell ⟨V.heap.size, 3, none⟩ (.int .i64 y)).setCell ⟨V.heap.size, 4, none⟩ (.int .i64 m)) := ⟨_, rfl⟩
      have HM : Hid (Holds W9 V.heap.size 109 #[.int .i64 l, .int .i64 o, .int .i64 x, .int .i64 y, .int .i64 m]) := Lib.hid (by rw [hW9]; exact (((((HN.out.put 0 _).put 1 _).put 2 _).put 3 _).put 4 _))
      have HBz : Hid (Below w.heap.size w W9) := Lib.hid (by rw [hW9]; exact ((((HB8.out.setCell (p := ⟨V.heap.size, 0, none⟩) hwV _).setCell (p := ⟨V.heap.size, 1, none⟩) hwV _).setCell (p := ⟨V.heap.size, 2, none⟩) hwV _).setCell (p := ⟨V.heap.size, 3, none⟩) hwV _).setCell (p := ⟨V.heap.size, 4, none⟩) hwV _)
      rw [← hW9]
      have m0 := HM.out.cell 0
      have m1 := HM.out.cell 1
      have m2 := HM.out.cell 2
      have m3 := HM.out.cell 3
      have m4 := HM.out.cell 4
      clear hW9
      rcases hout with ⟨rfl, rfl, rfl, rfl⟩ | ⟨rfl, rfl, rfl, rfl⟩
      · go_upto_region 13 with (go_at_call 51; (with_reducible refine (HGl.out _).mono ?_); rintro e w10 ⟨rfl, hb10⟩; have HMz := Lib.hid (HM.out.below hb10 HM.out.lt); have HBy := Lib.hid (HBz.out.trans (hb10.mono HBz.out.size)); have n4 := HMz.out.cell 4; clear hb10 m0 m1 m2 m3 m4)
        go_quiet (fail)
        go_wp2
        go_ret3
        exact ⟨rfl, below_drewN HBy.out _⟩
      · go_wp2_with (go_at_call 51; (with_reducible refine (HGl.out _).mono ?_); rintro e w10 ⟨rfl, hb10⟩; have HBy := Lib.hid (HBz.out.trans (hb10.mono HBz.out.size)); clear hb10 m0 m1 m2 m3 m4)
        go_ret3
        exact ⟨rfl, HBy.out⟩
    · obtain ⟨W9, hW9⟩ : ∃ W9, W9 = (((((w8.setCell ⟨V.heap.size, 0, none⟩ (.int .i64 l)).setCell ⟨V.heap.size, 1, none⟩ (.int .i64 o)).setCell ⟨V.heap.size, 2, none⟩ (.int .i64 x)).setCell ⟨V.heap.size, 3, none⟩ (.int .i64 y)).setCell ⟨V.heap.size, 4, none⟩ (.int .i64 m)) := ⟨_, rfl⟩
      have HM : Hid (Holds W9 V.heap.size 109 #[.int .i64 l, .int .i64 o, .int .i64 x, .int .i64 y, .int .i64 m]) := Lib.hid (by rw [hW9]; exact (((((HN.out.put 0 _).put 1 _).put 2 _).put 3 _).put 4 _))
      have HBz : Hid (Below w.heap.size w W9) := Lib.hid (by rw [hW9]; exact ((((HB8.out.setCell (p := ⟨V.heap.size, 0, none⟩) hwV _).setCell (p := ⟨V.heap.size, 1, none⟩) hwV _).setCell (p := ⟨V.heap.size, 2, none⟩) hwV _).setCell (p := ⟨V.heap.size, 3, none⟩) hwV _).setCell (p := ⟨V.heap.size, 4, none⟩) hwV _)
      rw [← hW9]
      have m0 := HM.out.cell 0
      have m1 := HM.out.cell 1
      have m2 := HM.out.cell 2
      have m3 := HM.out.cell 3
      have m4 := HM.out.cell 4
      clear hW9
      rcases hout with ⟨rfl, rfl, rfl, rfl⟩ | ⟨rfl, rfl, rfl, rfl⟩
      · go_upto_region 13 with (go_at_call 51; (with_reducible refine (HGl.out _).mono ?_); rintro e w10 ⟨rfl, hb10⟩; have HMz := Lib.hid (HM.out.below hb10 HM.out.lt); have HBy := Lib.hid (HBz.out.trans (hb10.mono HBz.out.size)); have n4 := HMz.out.cell 4; clear hb10 m0 m1 m2 m3 m4)
        go_quiet (fail)
        go_wp2
        go_ret3
        exact ⟨rfl, below_drewN HBy.out _⟩
      · go_wp2_with (go_at_call 51; (with_reducible refine (HGl.out _).mono ?_); rintro e w10 ⟨rfl, hb10⟩; have HBy := Lib.hid (HBz.out.trans (hb10.mono HBz.out.size)); clear hb10 m0 m1 m2 m3 m4)
        go_ret3
        exact ⟨rfl, HBy.out⟩
end Go.Proofs.Ytgmeakcfiaopcaa
