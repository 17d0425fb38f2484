/- LinksDo's round, case by case. -/
import Derived.Test.YtfekblikiemogaaDoorLdF
namespace Go.Proofs.YtfekblikiemogaaDoor
open Go.RowKit
set_option linter.unusedVariables false
set_option linter.unusedSimpArgs false

/-- May's five tests, each as it is asked: what is asked first that fails. -/
theorem may_six (n : Nat) (i k : Int) :
    (decide (0 ≤ i) = false ∧ mayB n i k = false) ∨
    (decide (0 ≤ i) = true ∧ decide (0 ≤ k) = false ∧ mayB n i k = false) ∨
    (decide (0 ≤ i) = true ∧ decide (0 ≤ k) = true ∧ decide (i < n) = false ∧ mayB n i k = false) ∨
    (decide (0 ≤ i) = true ∧ decide (0 ≤ k) = true ∧ decide (i < n) = true ∧ decide (k < n) = false ∧ mayB n i k = false) ∨
    (decide (0 ≤ i) = true ∧ decide (0 ≤ k) = true ∧ decide (i < n) = true ∧ decide (k < n) = true ∧ (i == k) = true ∧ mayB n i k = false) ∨
    (decide (0 ≤ i) = true ∧ decide (0 ≤ k) = true ∧ decide (i < n) = true ∧ decide (k < n) = true ∧ (i == k) = false ∧ mayB n i k = true) := by
  rw [mayB_tests]
  by_cases h1 : 0 ≤ i <;> by_cases h2 : 0 ≤ k <;> by_cases h3 : i < n <;> by_cases h4 : k < n <;> by_cases h5 : i = k <;> simp [h1, h2, h3, h4, h5]
section
variable {w : World} {n g r gm : Nat} {M M' : List Nat} {W W' : World}
theorem BRun.drewN (h : BRun w n g r gm M W) (nq : Nat) : BRun w n g r gm M (W.drewN nq) := h.below' (below_drewN (Below.refl _ _) nq)
theorem SRun.drewN (h : SRun w n g r M W) (nq : Nat) : SRun w n g r M (W.drewN nq) := h.below' (below_drewN (Below.refl _ _) nq)
/-- Set, as it answers where it is known whether there may be a link. -/
theorem brun_set_is {m : Bool} {E : Int} (i k : Int) (on : Bool) (hm : mayB n i k = m) (hE : (if m = true then 0 else 1) = E) (ht0 : 0 < w.heap.size) (h : BRun w n g r gm M W) : Calls Tryd.prog 12 #[.pointer (some ⟨g, 0, none⟩), .int .i64 i, .int .i64 k, .bool on] W fun e w' =>
    e = .returned (.int .i64 E) ∧ BHalf w n g r gm M (afterM M i k on) w' ∧ Chg (fun b => b = r) W w' := by
  have := brun_set h ht0 i k on
  rwa [hm, hE] at this
theorem bhalf_set_is {m : Bool} {E : Int} {i k : Int} {on : Bool} (hm : mayB n i k = m) (hE : (if m = true then 0 else 1) = E) (ht0 : 0 < w.heap.size) (h : BHalf w n g r gm M (afterM M i k on) W) : Calls Tryd.prog 18 #[.pointer (some ⟨gm, 0, none⟩), .int .i64 i, .int .i64 k, .bool on] W fun e w' =>
    e = .returned (.int .i64 E) ∧ BRun w n g r gm (afterM M i k on) w' ∧ Chg (fun b => b = gm) W w' := by
  have := bhalf_set h ht0
  rwa [hm, hE] at this
theorem srun_may_is {m : Bool} {i k : Int} (hm : mayB n i k = m) (h : SRun w n g r M W) : Calls Tryd.prog 16 #[.pointer (some ⟨g, 0, none⟩), .int .i64 i, .int .i64 k] W fun e w' => e = .returned (.bool m) ∧ w' = W := by
  have := srun_may h i k
  rwa [hm] at this
/-- Has behind Set, both ways. -/
theorem srun_has_is {b : Bool} {i k : Int} {on : Bool} (h0 : Net M) (h1 : FitM M) (h2 : M.length = n) (hb : (mayB n i k && on) = b) (h : SRun w n g r (afterM M i k on) W) : Calls Tryd.prog 15 #[.pointer (some ⟨g, 0, none⟩), .int .i64 i, .int .i64 k] W fun e w' => e = .returned (.bool b) ∧ w' = W := by
  have := srun_hasB h i k
  rwa [hasB_after h0 h1 h2, hb] at this
theorem srun_has_back {b : Bool} {i k : Int} {on : Bool} (h0 : Net M) (h1 : FitM M) (h2 : M.length = n) (hb : (mayB n i k && on) = b) (h : SRun w n g r (afterM M i k on) W) : Calls Tryd.prog 15 #[.pointer (some ⟨g, 0, none⟩), .int .i64 k, .int .i64 i] W fun e w' => e = .returned (.bool b) ∧ w' = W := by
  have := srun_hasB h k i
  rwa [hasB_sym h.net h.fit.1, hasB_after h0 h1 h2, hb] at this
theorem in_near {a j : Nat} (h : FitM M) (hj : j < 64) (W : World) : Calls Tryd.prog 19 #[.int .u64 (M.getD a 0 : Nat), .int .i64 (j : Int)] W fun e w' => e = .returned (.bool (adj M a j)) ∧ w' = W := by
  have := in_any W _ (h.2 a) (j : Int)
  rwa [inSet_nat hj] at this
end
end Go.Proofs.YtfekblikiemogaaDoor
