/- What the ears tell. Plain mathematics. -/
import Derived.Test.YtgmkmkheknibmaaDoorEtB
namespace Go.Proofs.YtgmkmkheknibmaaDoor

theorem bits_pow {k : Nat} (hk : k < 64) : bitsOf (2 ^ k) = [k] := by
  unfold bitsOf
  rw [range_split hk, List.filter_append, List.filter_cons_of_pos (by simp [Nat.testBit_two_pow_self])]
  have f1 : (List.range k).filter (fun j => (2 ^ k).testBit j) = [] := List.filter_eq_nil_iff.2 (fun j hj => by
    have := List.mem_range.1 hj
    rw [Nat.testBit_two_pow_of_ne (by omega)]
    decide)
  have f2 : (List.range' (k + 1) (64 - k - 1)).filter (fun j => (2 ^ k).testBit j) = [] := List.filter_eq_nil_iff.2 (fun j hj => by
    have := (List.mem_range'_1.1 hj).1
    rw [Nat.testBit_two_pow_of_ne (by omega)]
    decide)
  rw [f1, f2]
  rfl
theorem and_pow (x k : Nat) : x &&& 2 ^ k = if x.testBit k then 2 ^ k else 0 := by
  apply Nat.eq_of_testBit_eq
  intro j
  rw [Nat.testBit_and, Nat.testBit_two_pow]
  by_cases e : k = j
  · subst e
    rcases h : x.testBit k with _ | _ <;> simp [Nat.testBit_two_pow_self]
  · have e' : decide (k = j) = false := decide_eq_false e
    rw [e', Bool.and_false]
    split
    · rw [Nat.testBit_two_pow_of_ne e]
    · rw [Nat.zero_testBit]
theorem lost_nil (i : Nat) (F : Int) : lostB [] i F = false := by simp [lostB]
/-- Where just one sends, and nothing is lost. -/
theorem ear_one {M : List Nat} {from_ K i : Nat} (hf : from_ < 64) (hi : adj M i i = false) : earV M (2 ^ from_) K [] i = if adj M i from_ then ((from_ : Int), if K.testBit i then 1 else 3) else (-1, 0) := by
  unfold earV
  rw [and_pow, show (M.getD i 0).testBit from_ = adj M i from_ from rfl]
  rcases ha : adj M i from_ with _ | _
  · simp [onlyV, bits_zero, oneOf]
  · have hne : from_ ≠ i := fun e => by
      rw [e, hi] at ha
      cases ha
    have hp : ¬ 2 ^ from_ = 0 := Nat.pos_iff_ne_zero.1 (Nat.two_pow_pos _)
    have ho : onlyV (2 ^ from_) = (from_ : Int) := by
      unfold onlyV
      rw [bits_pow hf]
      rfl
    have hn : ¬ (from_ : Int) < 0 := by omega
    simp only [if_true, ho, if_neg hp, Nat.testBit_two_pow_of_ne hne, if_neg hn, lost_nil]
    rcases K.testBit i with _ | _ <;> simp
/-- Who hears. -/
theorem ear_heard {M : List Nat} {S K i : Nat} {zs : List Int} (h : (earV M S K zs i).2 = 1) : ∃ j : Nat, (earV M S K zs i).1 = j ∧ j < 64 ∧ adj M i j = true ∧ S.testBit j = true ∧ K.testBit i = true ∧ S.testBit i = false := by
  unfold earV at h ⊢
  dsimp only at h ⊢
  by_cases h0 : M.getD i 0 &&& S = 0
  · rw [if_pos h0] at h
    cases h
  · rw [if_neg h0] at h
    rcases h1 : S.testBit i with _ | _
    · rw [h1, if_neg (by decide)] at h
      rcases h2 : K.testBit i with _ | _
      · rw [h2, if_pos rfl] at h
        cases h
      · rw [h2, if_neg (by decide)] at h
        by_cases h3 : onlyV (M.getD i 0 &&& S) < 0
        · rw [if_pos h3] at h
          cases h
        · obtain ⟨j, hj, hj64, hb⟩ := only_bit h3
          have hm : j ∈ bitsOf (M.getD i 0 &&& S) := by rw [hb]; simp
          have hbit := (mem_bits.1 hm).2
          rw [Nat.testBit_and, Bool.and_eq_true] at hbit
          exact ⟨j, hj, hj64, hbit.1, hbit.2, rfl, rfl⟩
    · rw [h1, if_pos rfl] at h
      cases h
/-- With more lost. -/
def MoreLost (zs ys : List Int) : Prop := ∀ i F, lostB zs i F = true → lostB ys i F = true
theorem ear_from (M : List Nat) (S K : Nat) (zs ys : List Int) (i : Nat) : (earV M S K zs i).1 = (earV M S K ys i).1 := rfl
theorem ear_more {M : List Nat} {S K i : Nat} {zs ys : List Int} (hm : MoreLost zs ys) (h : (earV M S K ys i).2 = 1) : earV M S K zs i = earV M S K ys i := by
  have h' := h
  unfold earV at h' ⊢
  dsimp only at h' ⊢
  by_cases h0 : M.getD i 0 &&& S = 0
  · rw [if_pos h0] at h'
    cases h'
  · rw [if_neg h0] at h'
    rw [if_neg h0, if_neg h0]
    rcases h1 : S.testBit i with _ | _
    · rw [h1, if_neg (by decide)] at h'
      simp only [Bool.false_eq_true, if_false]
      rcases h2 : K.testBit i with _ | _
      · simp
      · rw [h2, if_neg (by decide)] at h'
        simp only [Bool.true_eq_false, if_false]
        by_cases h3 : onlyV (M.getD i 0 &&& S) < 0
        · rw [if_pos h3, if_pos h3]
        · rw [if_neg h3] at h'
          rw [if_neg h3, if_neg h3]
          rcases h4 : lostB ys i (onlyV (M.getD i 0 &&& S)) with _ | _
          · rcases h5 : lostB zs i (onlyV (M.getD i 0 &&& S)) with _ | _
            · rfl
            · rw [hm _ _ h5] at h4
              cases h4
          · rw [h4, if_pos rfl] at h'
            cases h'
    · simp
end Go.Proofs.YtgmkmkheknibmaaDoor
