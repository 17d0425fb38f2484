/- What the laws share: lists of bits; a script's calls; wide numbers. -/
import Derived.Test.YtfekblikiemogaaDoorLkZ
namespace Go.Proofs.YtfekblikiemogaaDoor
open Go.RowKit
set_option linter.unusedSimpArgs false

theorem run_min2 (a b : Int) (w : World) : (Builtin.min_ #[3, 3] 3 #[.int .i64 a, .int .i64 b]).run Tryd.prog w = .ok (.int .i64 (if b < a then b else a)) w := by
  simp [Builtin.min_, Builtin.min2, go_sem]
/-- The numbers of a set's bits below k. -/
def bitsTo (x k : Nat) : List Nat := (List.range k).filter fun j => x.testBit j
theorem bitsTo_all (x : Nat) : bitsTo x 64 = bitsOf x := rfl
theorem bitsTo_zero (x : Nat) : bitsTo x 0 = [] := rfl
theorem bitsTo_no {x k : Nat} (h : x.testBit k = false) : bitsTo x (k + 1) = bitsTo x k := by simp [bitsTo, List.range_succ, h]
theorem bitsTo_yes {x k : Nat} (h : x.testBit k = true) : bitsTo x (k + 1) = bitsTo x k ++ [k] := by simp [bitsTo, List.range_succ, h]
theorem bitsTo_len (x k : Nat) : (bitsTo x k).length ≤ k := Nat.le_trans (List.length_filter_le _ _) (by simp)
theorem bits_at {x k : Nat} (hk : k < 64) (h : x.testBit k = true) : (bitsTo x k).length < (bitsOf x).length ∧ (asInts (bitsOf x))[(bitsTo x k).length]?.getD 0 = (k : Int) := by
  have : bitsOf x = bitsTo x k ++ k :: ((List.range' (k + 1) (64 - k - 1)).filter fun j => x.testBit j) := by
    unfold bitsOf bitsTo
    rw [range_split hk, List.filter_append, List.filter_cons_of_pos (by simpa using h)]
  rw [this]
  constructor
  · simp
  · simp [asInts]
theorem asInts_len (l : List Nat) : (asInts l).length = l.length := by simp [asInts]
theorem asInts_take (l : List Nat) (m K : Nat) (h : K = min m l.length) : asInts (l.take m) = (asInts l).take K := by
  subst h
  unfold asInts
  rw [List.map_take]
  by_cases hm : m ≤ l.length
  · rw [Nat.min_eq_left hm]
  · rw [Nat.min_eq_right (by omega), List.take_of_length_le (by simp; omega), List.take_of_length_le (by simp)]
theorem Row.take {w : World} {A : Option Addr} {n : Nat} {zs : List Int} (h : Row w A n zs) {K : Nat} (hK : K ≤ n) : Row w A K (zs.take K) :=
  ⟨by rw [List.length_take, h.1]; omega, by have := h.2.1; omega, fun h0 => by
    obtain ⟨b, off, e, hlt, hc⟩ := h.2.2 (by omega)
    refine ⟨b, off, e, hlt, fun j hj => ?_⟩
    rw [hc j (by omega), List.getElem?_take, if_pos hj]⟩
end Go.Proofs.YtfekblikiemogaaDoor
