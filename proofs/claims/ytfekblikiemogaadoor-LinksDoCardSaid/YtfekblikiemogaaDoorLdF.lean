/- What LinksDo asks of each call. -/
import Derived.Test.YtfekblikiemogaaDoorLdE
import Derived.Test.YtfekblikiemogaaDoorLkR
namespace Go.Proofs.YtfekblikiemogaaDoor
open Go.RowKit
set_option linter.unusedVariables false
set_option linter.unusedSimpArgs false

theorem hasB_adj {M : List Nat} (i k : Int) (h : hasB M i k = true) (h64 : M.length ≤ 64) : ∃ a b : Nat, i = a ∧ k = b ∧ a < M.length ∧ b < M.length ∧ adj M a b = true := by
  unfold hasB nearV at h
  simp only [Bool.and_eq_true] at h
  obtain ⟨b, rfl, hb⟩ := of_inB h.1
  have h2 := h.2
  split at h2
  · rename_i hi
    obtain ⟨a, rfl, ha⟩ := of_inB hi
    exact ⟨a, b, rfl, rfl, ha, hb, by simpa [adj] using h2⟩
  · simp at h2
theorem hasB_of {M : List Nat} {a b : Nat} (ha : a < M.length) (hb : b < M.length) : hasB M (a : Int) (b : Int) = adj M a b := hasB_nat ha hb
theorem hasB_sym {M : List Nat} (hN : Net M) (h64 : M.length ≤ 64) (i k : Int) : hasB M k i = hasB M i k := by
  have key : ∀ i k : Int, hasB M i k = true → hasB M k i = true := fun i k h => by
    obtain ⟨a, b, rfl, rfl, ha, hb, hab⟩ := hasB_adj i k h h64
    rw [hasB_of hb ha]
    exact hN.sym _ _ hab
  rcases h1 : hasB M i k with _ | _
  · rcases h2 : hasB M k i with _ | _
    · rfl
    · rw [key _ _ h2] at h1
      cases h1
  · exact key _ _ h1
theorem hasB_after {M : List Nat} {n : Nat} (hN : Net M) (hf : FitM M) (hl : M.length = n) (i k : Int) (on : Bool) : hasB (afterM M i k on) i k = (mayB n i k && on) := by
  unfold afterM
  rw [hl]
  rcases hm : mayB n i k with _ | _
  · rw [if_neg (by decide), Bool.false_and]
    rcases h : hasB M i k with _ | _
    · rfl
    · obtain ⟨a, b, rfl, rfl, ha, hb, hab⟩ := hasB_adj i k h hf.1
      have hne : a ≠ b := fun e => by
        subst e
        rw [hN.irr] at hab
        cases hab
      unfold mayB at hm
      rw [inB_nat, inB_nat] at hm
      simp [show a < n by omega, show b < n by omega] at hm
      omega
  · rw [if_pos rfl, Bool.true_and]
    obtain ⟨a, b, rfl, rfl, ha, hb, hne⟩ := may_spec hm
    rw [Int.toNat_natCast, Int.toNat_natCast, hasB_of (by rw [set_len]; omega) (by rw [set_len]; omega), set_adj hf (by omega) (by omega)]
    simp
/-- May, by its five tests. -/
theorem mayB_tests (n : Nat) (i k : Int) : mayB n i k = (decide (0 ≤ i) && decide (0 ≤ k) && decide (i < n) && decide (k < n) && decide (i ≠ k)) := by
  unfold mayB inB
  by_cases h1 : 0 ≤ i <;> by_cases h2 : 0 ≤ k <;> by_cases h3 : i < n <;> by_cases h4 : k < n <;> simp [h1, h2, h3, h4]
theorem hops_nil_one (w : World) : Calls Tryd.prog 17 #[.pointer none, .int .i64 0, .int .u64 1] w (GaveInts 0 (fun H => H = []) w) := hops_nil w 0 1
section
variable {w : World} {n g r gm : Nat} {M : List Nat} {W : World}
theorem srun_hasB (h : SRun w n g r M W) (i k : Int) : Calls Tryd.prog 15 #[.pointer (some ⟨g, 0, none⟩), .int .i64 i, .int .i64 k] W fun e w' => e = .returned (.bool (hasB M i k)) ∧ w' = W := has_lk W _ g r M h.lk i k
theorem srun_near (h : SRun w n g r M W) (i : Nat) (hi : i < n) : Calls Tryd.prog 14 #[.pointer (some ⟨g, 0, none⟩), .int .i64 i] W fun e w' => e = .returned (.int .u64 (M.getD i 0 : Nat)) ∧ w' = W := by
  have := near_lk W _ g r M h.lk (i : Int)
  unfold nearV at this
  rw [inB_nat, h.len, decide_eq_true hi, if_pos rfl, Int.toNat_natCast] at this
  exact this
theorem srun_near_no (h : SRun w n g r M W) (i : Int) (hi : inB n i = false) : Calls Tryd.prog 14 #[.pointer (some ⟨g, 0, none⟩), .int .i64 i] W fun e w' => e = .returned (.int .u64 0) ∧ w' = W := by
  have := near_lk W _ g r M h.lk i
  unfold nearV at this
  rw [h.len, hi] at this
  exact this
theorem srun_len (h : SRun w n g r M W) : Calls Tryd.prog 13 #[.pointer (some ⟨g, 0, none⟩)] W fun e w' => e = .returned (.int .i64 n) ∧ w' = W := by
  have := len_lk W _ g r M h.lk
  rwa [h.len] at this
theorem srun_has_no (h : SRun w n g r M W) : Calls Tryd.prog 15 #[.pointer (some ⟨g, 0, none⟩), .int .i64 0, .int .i64 n] W fun e w' => e = .returned (.bool false) ∧ w' = W := by
  have := has_lk W _ g r M h.lk 0 (n : Int)
  unfold hasB at this
  rw [h.len, inB_nat] at this
  simpa using this
end
end Go.Proofs.YtfekblikiemogaaDoor
