/- Package links: Wide's mathematics; the builtin max. -/
import Derived.Test.YtfekblikiemogaaDoorLkN
import Derived.Test.YtfekblikiemogaaDoorLkD
namespace Go.Proofs.YtfekblikiemogaaDoor
open Go.RowKit
set_option linter.unusedSimpArgs false

theorem run_max2 (a b : Int) (w : World) : (Builtin.max_ #[3, 3] 3 #[.int .i64 a, .int .i64 b]).run Tryd.prog w = .ok (.int .i64 (if a < b then b else a)) w := by
  simp [Builtin.max_, Builtin.max2, go_sem]
/-- What Wide answers of a set of nodes. -/
def WideIs (M : List Nat) (O : Nat) (v : Int) (ok : Bool) : Prop :=
  (ok = true ∧ ∃ d : Nat, v = (d : Int) ∧ (∃ i, O.testBit i = true) ∧ (∀ i k, O.testBit i = true → O.testBit k = true → ∃ e, e ≤ d ∧ First M O i e k) ∧ ∃ i k, O.testBit i = true ∧ O.testBit k = true ∧ First M O i d k) ∨
  (ok = false ∧ v = 0 ∧ ((∀ i, O.testBit i = false) ∨ ∃ i k, O.testBit i = true ∧ O.testBit k = true ∧ ∀ d, ¬ Reach M O i d k))
theorem WideIs.one {M : List Nat} {O : Nat} {v v' : Int} {ok ok' : Bool} (h : WideIs M O v ok) (h' : WideIs M O v' ok') : v = v' ∧ ok = ok' := by
  rcases h with ⟨rfl, d, rfl, ⟨i0, h0⟩, h1, i, k, h2, h3, h4⟩ | ⟨rfl, rfl, h⟩
  · rcases h' with ⟨rfl, d', rfl, _, g1, i', k', g2, g3, g4⟩ | ⟨rfl, rfl, h'⟩
    · obtain ⟨e, he, hf⟩ := g1 i k h2 h3
      obtain ⟨e', he', hf'⟩ := h1 i' k' g2 g3
      have e1 := first_one hf h4
      have e2 := first_one hf' g4
      exact ⟨by omega, rfl⟩
    · rcases h' with h' | ⟨i', k', g2, g3, g4⟩
      · rw [h' i0] at h0
        cases h0
      · obtain ⟨e', _, hf'⟩ := h1 i' k' g2 g3
        exact absurd hf'.1 (g4 e')
  · rcases h' with ⟨rfl, d', rfl, ⟨i0, g0⟩, g1, _⟩ | ⟨rfl, rfl, _⟩
    · rcases h with h | ⟨i', k', g2, g3, g4⟩
      · rw [h i0] at g0
        cases g0
      · obtain ⟨e', _, hf'⟩ := g1 i' k' g2 g3
        exact absurd hf'.1 (g4 e')
    · exact ⟨rfl, rfl⟩
/-- Behind some nodes: all ways from these are no longer than v. -/
def WideUp (M : List Nat) (O : Nat) (pre : List Nat) (v : Nat) : Prop :=
  (∀ i ∈ pre, ∀ k, O.testBit k = true → ∃ e, e ≤ v ∧ First M O i e k) ∧ (v ≠ 0 → ∃ i k, O.testBit i = true ∧ O.testBit k = true ∧ First M O i v k)
def WideTo (M : List Nat) (O : Nat) (i : Nat) (pre : List Nat) (v : Nat) : Prop := ∀ k ∈ pre, ∃ e, e ≤ v ∧ First M O i e k
section
variable {M : List Nat} {O v : Nat} {pre : List Nat} {i : Nat}
theorem WideUp.nil : WideUp M O [] 0 := ⟨fun _ h => (by cases h), fun h => absurd rfl h⟩
theorem WideTo.nil : WideTo M O i [] v := fun _ h => by cases h
theorem WideUp.max (h : WideUp M O pre v) (hi : O.testBit i = true) {k e : Nat} (hk : O.testBit k = true) (hf : First M O i e k) : WideUp M O pre (if v < e then e else v) := by
  split
  · rename_i hlt
    exact ⟨fun j hj k' hk' => (h.1 j hj k' hk').imp fun _ hx => ⟨by omega, hx.2⟩, fun _ => ⟨i, k, hi, hk, hf⟩⟩
  · exact h
theorem WideTo.snoc {pre2 : List Nat} (h : WideTo M O i pre2 v) {k e : Nat} (hf : First M O i e k) : WideTo M O i (pre2 ++ [k]) (if v < e then e else v) := fun j hj => by
  rcases List.mem_append.1 hj with hj | hj
  · exact (h j hj).imp fun _ hx => ⟨by split <;> omega, hx.2⟩
  · simp only [List.mem_cons, List.not_mem_nil, or_false] at hj
    subst hj
    exact ⟨e, by split <;> omega, hf⟩
theorem WideUp.snoc (h : WideUp M O pre v) (h2 : WideTo M O i (bitsOf O) v) (hO : O < 18446744073709551616) : WideUp M O (pre ++ [i]) v :=
  ⟨fun j hj k hk => by
    rcases List.mem_append.1 hj with hj | hj
    · exact h.1 j hj k hk
    · simp only [List.mem_cons, List.not_mem_nil, or_false] at hj
      subst hj
      exact h2 k (mem_bits.2 ⟨bit_lt (n := 64) hO hk, hk⟩), h.2⟩
theorem WideUp.done (h : WideUp M O (bitsOf O) v) (hO : O < 18446744073709551616) : WideIs M O (v : Int) (decide (O ≠ 0)) := by
  by_cases h0 : O = 0
  · subst h0
    refine .inr ⟨by simp, ?_, .inl (by simp)⟩
    by_cases hv : v = 0
    · rw [hv]; rfl
    · obtain ⟨i, k, hi, _⟩ := h.2 hv
      simp at hi
  · obtain ⟨i, hi⟩ := Nat.exists_testBit_of_ne_zero h0
    refine .inl ⟨by simp [h0], v, rfl, ⟨i, hi⟩, fun i k hi hk => h.1 i (mem_bits.2 ⟨bit_lt (n := 64) hO hi, hi⟩) k hk, ?_⟩
    by_cases hv : v = 0
    · subst hv
      exact ⟨i, i, hi, hi, first_zero.2 ⟨rfl, hi⟩⟩
    · exact h.2 hv
theorem WideIs.cut {k : Nat} (hi : O.testBit i = true) (hk : O.testBit k = true) (h : ∀ d, ¬ Reach M O i d k) : WideIs M O 0 false := .inr ⟨rfl, rfl, .inr ⟨i, k, hi, hk, h⟩⟩
end
theorem all_bit {n k : Nat} : (2 ^ n - 1).testBit k = decide (k < n) := Nat.testBit_two_pow_sub_one n k
/-- Bits beyond the nodes play no part. -/
theorem reach_mask {M : List Nat} {on a : Nat} (h : Net M) (ha : a < M.length) : ∀ {d k : Nat}, Reach M (on &&& (2 ^ M.length - 1)) a d k ↔ Reach M on a d k
  | 0, k => by simp [Reach, Nat.testBit_and, all_bit, ha]
  | d + 1, k => by
    constructor
    · rintro ⟨i, h1, h2, h3⟩
      rw [Nat.testBit_and, Bool.and_eq_true] at h3
      exact ⟨i, (reach_mask h ha).1 h1, h2, h3.1⟩
    · rintro ⟨i, h1, h2, h3⟩
      refine ⟨i, (reach_mask h ha).2 h1, h2, ?_⟩
      rw [Nat.testBit_and, h3, all_bit]
      simpa using h.lt _ _ h2
theorem first_mask {M : List Nat} {on a : Nat} (h : Net M) (ha : a < M.length) {d k : Nat} : First M (on &&& (2 ^ M.length - 1)) a d k ↔ First M on a d k := by
  unfold First
  simp only [reach_mask h ha]
end Go.Proofs.YtfekblikiemogaaDoor
