/- Package links: Has, all, New; the number of a lowest bit. -/
import Derived.Test.YtgmkmkheknibmaaDoorLkB
import Derived.Shelf.Spec.TrailingZeros
namespace Go.Proofs.YtgmkmkheknibmaaDoor
open Go.RowKit
set_option linter.unusedVariables false

def hasB (M : List Nat) (i k : Int) : Bool := inB M.length k && (nearV M i).testBit k.toNat
theorem bit_of {x k : Nat} (hx : x < 18446744073709551616) : bits .and .u64 ((x : Int) / (2 : Int) ^ k) 1 = ((x / 2 ^ k % 2 : Nat) : Int) := by
  rw [show ((x : Int) / (2 : Int) ^ k) = ((x / 2 ^ k : Nat) : Int) by simp, show (1 : Int) = ((1 : Nat) : Int) from rfl, u64_and_nat _ _ (Nat.lt_of_le_of_lt (Nat.div_le_self _ _) hx) (by decide), nat_mask1]
theorem bit_is (x k : Nat) : ((((x / 2 ^ k % 2 : Nat) : Int)) == 1) = x.testBit k := by
  rw [Nat.testBit_eq_decide_div_mod_eq]
  rcases Nat.mod_two_eq_zero_or_one (x / 2 ^ k) with h | h <;> simp [h]
theorem near_fit {w : World} {B g r : Nat} {M : List Nat} (h : Lk w B g r M) (i : Int) : nearV M i < 18446744073709551616 := by
  unfold nearV
  split
  · exact h.get_lt _
  · decide
theorem has_nil (w : World) (i k : Int) : Calls Tryd.prog 12 #[.pointer none, .int .i64 i, .int .i64 k] w fun e w' => e = .returned (.bool false) ∧ w' = w := by
  go_enter Tryd.func12, Tryd.ntmps12
  go_wp2_with (go_at_call 21; refine (node_nil _ _).mono ?_; rintro e w' ⟨rfl, rfl⟩)
  go_ret
  exact ⟨rfl, rfl⟩
theorem has_lk (w : World) (B g r : Nat) (M : List Nat) (h : Lk w B g r M) (i k : Int) : Calls Tryd.prog 12 #[.pointer (some ⟨g, 0, none⟩), .int .i64 i, .int .i64 k] w fun e w' => e = .returned (.bool (hasB M i k)) ∧ w' = w := by
  have hn1 := node_lk w B g r M h k
  have hn2 := near_lk w B g r M h i
  have hx := near_fit h i
  have h64 := h.le
  clear h
  unfold hasB
  rcases hb1 : inB M.length k with _ | _
  · rw [hb1] at hn1
    go_enter Tryd.func12, Tryd.ntmps12
    go_wp2_with (go_at_call 21; refine hn1.mono ?_; rintro e w' ⟨rfl, rfl⟩)
    go_ret
    exact ⟨rfl, rfl⟩
  · rw [hb1] at hn1
    obtain ⟨j, rfl, hj⟩ := of_inB hb1
    obtain ⟨X, hX⟩ : ∃ X, nearV M i = X := ⟨_, rfl⟩
    rw [hX] at hn2 hx ⊢
    have e1 := bit_of (k := j) hx
    have e2 := bit_is X j
    obtain ⟨Y, hY⟩ : ∃ Y, X / 2 ^ j % 2 = Y := ⟨_, rfl⟩
    rw [hY] at e1 e2
    have hj0 : (0 : Int) ≤ (j : Int) := Int.natCast_nonneg _
    rw [Int.toNat_natCast, Bool.true_and]
    clear hX hY hx
    go_enter Tryd.func12, Tryd.ntmps12
    go_wp2_with (first
      | (go_at_call 21; refine hn1.mono ?_; rintro e w' ⟨rfl, rfl⟩)
      | (go_at_call 17; refine hn2.mono ?_; rintro e w' ⟨rfl, rfl⟩))
    go_ret
    exact ⟨rfl, rfl⟩
/-- The table of lowest bits, in its variable. -/
def Tab (w : World) : Prop := TabAt 0 Lib.deBruijn64tab w ∧ 0 < w.heap.size
theorem Tab.below {w w' : World} (h : Tab w) {B : Nat} (hb : Below B w w') (hB : 0 < B) : Tab w' :=
  ⟨fun j hj => (hb.cell (p := ⟨_, j, none⟩) hB).trans (h.1 j hj), Nat.lt_of_lt_of_le h.2 hb.size⟩
theorem tz_any (w : World) (h : Tab w) (x : Nat) (hx : x < 18446744073709551616) (hx0 : x ≠ 0) : Calls Tryd.prog 24 #[.int .u64 x] w fun e w' => e = .returned (.int .i64 (Lib.ctz 64 x)) ∧ w' = w := by
  obtain ⟨hlow, hk⟩ := Lib.lowest_bit 64 x hx0 hx
  have key := tz64_key x _ hx hx0 hlow
  obtain ⟨hi, hat⟩ := Lib.deBruijn64_at _ hk
  have hc := h.1 _ hi
  rw [hat] at hc
  have hz : ((x : Int) == 0) = false := by simp; omega
  obtain ⟨K, hK⟩ : ∃ K, Lib.ctz 64 x = K := ⟨_, rfl⟩
  obtain ⟨I, hI⟩ : ∃ I, 2 ^ Lib.ctz 64 x * 285870213051353865 % 18446744073709551616 / 288230376151711744 = I := ⟨_, rfl⟩
  rw [hI] at key hi hc
  rw [hK] at hc hk ⊢
  clear h hat hI hK hlow hx0
  go_enter Tryd.func24, Tryd.ntmps24
  go_wp2_with (simp only [key])
  go_ret
  exact ⟨rfl, rfl⟩
end Go.Proofs.YtgmkmkheknibmaaDoor
