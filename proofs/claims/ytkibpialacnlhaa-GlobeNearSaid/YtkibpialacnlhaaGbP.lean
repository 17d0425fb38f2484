/- Entries that were right, one behind the other: what the law of near times has behind so many steps. Plain mathematics. -/
import Derived.Test.YtkibpialacnlhaaGbF
namespace Go.Proofs.Ytkibpialacnlhaa
open Go.RowKit
set_option linter.unusedVariables false

/-- Behind k steps (of n): the own time q, the other clock's lead O, the first entry's time f, the entries L. -/
structure NInv (c e off st ah : Int) (n k : Nat) (q O f : Int) (L : List Ent) : Prop where
  len : L.length = min k (n - 1)
  q1 : st + k ≤ q
  q2 : q ≤ st + 100000 * k
  o1 : ah - 2021 * k ≤ O
  o2 : O ≤ ah + 2021 * k
  f0 : st ≤ f
  f1 : f ≤ q
  right : ∀ x ∈ L, Right c e q O off f x
  can : ∀ x ∈ L, CanE x
theorem ninv_zero {c e off st ah : Int} {n : Nat} : NInv c e off st ah n 0 st ah st [] :=
  ⟨by simp, by omega, by omega, by omega, by omega, Int.le_refl _, Int.le_refl _, fun x h => (by cases h), fun x h => (by cases h)⟩
theorem most_gain {c e k : Int} (c0 : 0 ≤ c) (c1 : c ≤ 20) (e0 : 990 ≤ e) (k0 : 0 ≤ k) (k1 : k ≤ 100000) : 0 ≤ c * k / e ∧ c * k / e ≤ 2020 := by
  refine ⟨Int.ediv_nonneg (Int.mul_nonneg c0 k0) (by omega), ?_⟩
  rw [← Int.lt_add_one_iff, Int.ediv_lt_iff_lt_mul (by omega)]
  have h1 := Int.mul_le_mul c1 k1 k0 (by omega)
  omega
theorem NInv.next {c e off st ah : Int} {n k : Nat} {q O f : Int} {L : List Ent} (h : NInv c e off st ah n k q O f L) (hk : k < n) (hn : n ≤ 9) (st0 : 0 ≤ st) (st1 : st ≤ 1099511627776) (ah0 : 0 ≤ ah) (ah1 : ah ≤ 1099511627776)
    (off1 : off ≤ 100000) (c0 : 0 ≤ c) (c1 : c ≤ 20) (e0 : 990 ≤ e) {s g err : Int} (s0 : 1 ≤ s) (s1 : s ≤ 100000) (g0 : -(c * s / e) ≤ g) (g1 : g ≤ c * s / e) (r0 : -off ≤ err) (r1 : err ≤ off) {f' : Int} (hf : f' = if k = 0 then q + s else f) :
    (k < n - 1 → CanE (q + s, O + g + err, 1) ∧ Later L (q + s, O + g + err, 1) ∧ NInv c e off st ah n (k + 1) (q + s) (O + g) f' (pushL L (q + s, O + g + err, 1))) ∧
    (¬ k < n - 1 → 0 < k → NInv c e off st ah n (k + 1) (q + s) (O + g) f' L) := by
  obtain ⟨hl, q1, q2, o1, o2, f0, f1, hr, hc⟩ := h
  obtain ⟨m0, m1⟩ := most_gain (k := s) c0 c1 e0 (by omega) s1
  have hright : ∀ x ∈ L, Right c e (q + s) (O + g) off f' x := fun x hx => by
    have hk0 : ¬ k = 0 := fun hk0 => by
      subst hk0
      have : L = [] := List.eq_nil_of_length_eq_zero (by rw [hl]; simp)
      subst this
      cases hx
    rw [hf, if_neg hk0]
    exact (hr x hx).step (by omega) (by omega) g0 g1
  have hff : st ≤ f' ∧ f' ≤ q + s := by
    rw [hf]
    split <;> omega
  refine ⟨fun hlt => ?_, fun hge hk0 => ?_⟩
  · have hcan : CanE (q + s, O + g + err, 1) := ⟨by show 0 ≤ q + s; omega, by show q + s ≤ _; omega, by show _ ≤ O + g + err; omega, by show O + g + err ≤ _; omega, by show (1 : Int) ≤ 1; omega, by show (1 : Int) ≤ 63; omega⟩
    have hp : pushL L (q + s, O + g + err, 1) = L ++ [(q + s, O + g + err, 1)] := by unfold pushL; rw [if_neg (by omega)]
    refine ⟨hcan, fun x hx => ?_, ?_⟩
    · have := (hr x (List.mem_of_getLast? hx)).hi
      show x.1 < q + s
      omega
    · rw [hp]
      refine ⟨?_, by omega, by omega, by omega, by omega, hff.1, hff.2, fun x hx => ?_, fun x hx => ?_⟩
      · rw [List.length_append, hl]
        show min k (n - 1) + 1 = _
        omega
      · rcases List.mem_append.1 hx with hx | hx
        · exact hright x hx
        · simp only [List.mem_singleton] at hx
          subst hx
          exact Right.new (by omega) hff.2 r0 r1
      · rcases List.mem_append.1 hx with hx | hx
        · exact hc x hx
        · simp only [List.mem_singleton] at hx
          subst hx
          exact hcan
  · refine ⟨by rw [hl]; omega, by omega, by omega, by omega, by omega, hff.1, hff.2, hright, hc⟩
/-- At the end. -/
theorem NInv.near {off st ah d : Int} {n : Nat} {q O f : Int} {L : List Ent} (h : NInv (2 * dV d) (1000 - dV d) off st ah n n q O f L) (h2 : 2 ≤ n) (hn : n ≤ 9) (st0 : 0 ≤ st) (st1 : st ≤ 1099511627776) (ah0 : 0 ≤ ah) (ah1 : ah ≤ 1099511627776) (of0 : 0 ≤ off) (off1 : off ≤ 100000) :
    Ents8 L ∧ L ≠ [] ∧ CanT q ∧ 0 ≤ q - f ∧ q - f ≤ 900000 ∧ 0 ≤ 2 * dV d * (q - f) / (1000 - dV d) ∧ 2 * dV d * (q - f) / (1000 - dV d) ≤ 18181 ∧ -20000 ≤ O ∧ O ≤ 1099511647776 ∧
    -(off + 2 * (2 * dV d * (q - f) / (1000 - dV d)) + 4) ≤ rawV (locV L) (offV L) (ofV d L).1 (ofV d L).2 q - (q + O) ∧ rawV (locV L) (offV L) (ofV d L).1 (ofV d L).2 q - (q + O) ≤ off + 2 * (2 * dV d * (q - f) / (1000 - dV d)) + 4 := by
  obtain ⟨hl, q1, q2, o1, o2, f0, f1, hr, hc⟩ := h
  have hL : L ≠ [] := fun e => by
    subst e
    simp at hl
    omega
  have h8 : Ents8 L := ⟨by omega, hc⟩
  obtain ⟨v1, v2⟩ := dV_bd d
  have hm := map_ok d h8 hL
  obtain ⟨n1, n2⟩ := near_bound (of_ok d L) hL hr
  have hg := hm.gain (t := q) (by omega) (by omega)
  have e1 : rawV (locV L) (offV L) (ofV d L).1 (ofV d L).2 q - (q + O) = sumE entO L / (L.length : Int) + (ofV d L).1 * (q - sumE entL L / (L.length : Int)) / (ofV d L).2 - O := by
    unfold rawV
    rw [hg.1]
    unfold locV offV
    omega
  rw [e1]
  refine ⟨h8, hL, ⟨by omega, by omega⟩, by omega, by omega, Int.ediv_nonneg (Int.mul_nonneg (by omega) (by omega)) (by omega), ?_, by omega, by omega, n1, n2⟩
  rw [← Int.lt_add_one_iff, Int.ediv_lt_iff_lt_mul (by omega)]
  have h1 := Int.mul_le_mul (show 2 * dV d ≤ 20 by omega) (show q - f ≤ 900000 by omega) (by omega) (by omega)
  have h3 : (18181 + 1) * (1000 - dV d) = 18182000 - 18182 * dV d := by grind
  omega
end Go.Proofs.Ytkibpialacnlhaa
