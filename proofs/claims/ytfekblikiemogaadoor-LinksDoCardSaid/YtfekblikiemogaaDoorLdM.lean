/- The document's Hops and Wide: plain mathematics. -/
import Derived.Test.YtfekblikiemogaaDoorLkL
namespace Go.Proofs.YtfekblikiemogaaDoor
set_option linter.unusedVariables false
set_option linter.unusedSimpArgs false

/-- Within round d of the document's Hops, ahead of the pair i, k. -/
def Mid (M : List Nat) (on a d i k : Nat) (H : List Int) : Prop :=
  H.length = M.length ∧ ∀ y, y < M.length → (∃ e, e < d + 1 ∧ First M on a e y ∧ H.getD y 0 = (e : Int)) ∨
    ((∀ e, e < d + 1 → ¬ First M on a e y) ∧ ((H.getD y 0 = ((d + 1 : Nat) : Int) ∧ ∃ x, First M on a d x ∧ adj M x y = true ∧ on.testBit y = true ∧ (x < i ∨ (x = i ∧ y < k))) ∨
      (H.getD y 0 = -1 ∧ ∀ x, First M on a d x → adj M x y = true → on.testBit y = true → ¬ (x < i ∨ (x = i ∧ y < k)))))
section
variable {M : List Nat} {on a d i k : Nat} {H : List Int}
theorem Mid.start (h : Told M on a (d + 1) H) : Mid M on a d 0 0 H :=
  ⟨h.1, fun y hy => by
    rcases h.2 y hy with ⟨e, he, hf, hv⟩ | ⟨hno, hv⟩
    · exact .inl ⟨e, he, hf, hv⟩
    · exact .inr ⟨hno, .inr ⟨hv, fun x _ _ _ hx => by omega⟩⟩⟩
theorem Mid.get (h : Mid M on a d i k H) {y : Nat} (hy : y < M.length) : H.getD y 0 = (d : Int) ↔ First M on a d y := by
  constructor
  · intro he
    rcases h.2 y hy with ⟨e, _, hf, hv⟩ | ⟨_, ⟨hv, _⟩ | ⟨hv, _⟩⟩
    · obtain rfl : e = d := by omega
      exact hf
    · omega
    · omega
  · intro hf
    rcases h.2 y hy with ⟨e, _, hf', hv⟩ | ⟨hno, _⟩
    · rw [hv, first_one hf hf']
    · exact absurd hf (hno d (by omega))
theorem Mid.bound (h : Mid M on a d i k H) {y : Nat} (hy : y < M.length) : -1 ≤ H.getD y 0 ∧ H.getD y 0 ≤ ((d + 1 : Nat) : Int) := by
  rcases h.2 y hy with ⟨e, _, hf, hv⟩ | ⟨_, ⟨hv, _⟩ | ⟨hv, _⟩⟩ <;> omega
/-- The pair isn't one by which k is come to. -/
theorem Mid.no (h : Mid M on a d i k H) (hi : i < M.length) (hk : k < M.length) (hc : ¬ (H.getD i 0 = (d : Int) ∧ H.getD k 0 < 0 ∧ adj M i k = true ∧ on.testBit k = true)) : Mid M on a d i (k + 1) H :=
  ⟨h.1, fun y hy => by
    rcases h.2 y hy with h1 | ⟨hno, ⟨hv, x, h1, h2, h3, h4⟩ | ⟨hv, hx⟩⟩
    · exact .inl h1
    · exact .inr ⟨hno, .inl ⟨hv, x, h1, h2, h3, by omega⟩⟩
    · refine .inr ⟨hno, .inr ⟨hv, fun x h1 h2 h3 h4 => ?_⟩⟩
      by_cases e : x = i ∧ y = k
      · obtain ⟨rfl, rfl⟩ := e
        exact hc ⟨(h.get hi).2 h1, by omega, h2, h3⟩
      · exact hx x h1 h2 h3 (by omega)⟩
/-- .. or it is. -/
theorem Mid.yes (h : Mid M on a d i k H) (hi : i < M.length) (hk : k < M.length) (h1 : H.getD i 0 = (d : Int)) (h2 : H.getD k 0 < 0) (h3 : adj M i k = true) (h4 : on.testBit k = true) : Mid M on a d i (k + 1) (H.set k ((d + 1 : Nat) : Int)) := by
  have hkl : k < H.length := by rw [h.1]; exact hk
  refine ⟨by rw [List.length_set]; exact h.1, fun y hy => ?_⟩
  by_cases e : y = k
  · subst e
    have hg : (H.set y ((d + 1 : Nat) : Int)).getD y 0 = ((d + 1 : Nat) : Int) := by simp [List.getD, hkl]
    rw [hg]
    rcases h.2 y hy with ⟨e, _, _, hv⟩ | ⟨hno, _⟩
    · omega
    · exact .inr ⟨hno, .inl ⟨rfl, i, (h.get hi).1 h1, h3, h4, by omega⟩⟩
  · have hg : (H.set k ((d + 1 : Nat) : Int)).getD y 0 = H.getD y 0 := by simp [List.getD, List.getElem?_set_ne (Ne.symm e)]
    rw [hg]
    rcases h.2 y hy with h5 | ⟨hno, ⟨hv, x, h5, h6, h7, h8⟩ | ⟨hv, hx⟩⟩
    · exact .inl h5
    · exact .inr ⟨hno, .inl ⟨hv, x, h5, h6, h7, by omega⟩⟩
    · exact .inr ⟨hno, .inr ⟨hv, fun x h5 h6 h7 h8 => hx x h5 h6 h7 (by omega)⟩⟩
theorem Mid.row (h : Mid M on a d i M.length H) : Mid M on a d (i + 1) 0 H :=
  ⟨h.1, fun y hy => by
    rcases h.2 y hy with h1 | ⟨hno, ⟨hv, x, h1, h2, h3, h4⟩ | ⟨hv, hx⟩⟩
    · exact .inl h1
    · exact .inr ⟨hno, .inl ⟨hv, x, h1, h2, h3, by omega⟩⟩
    · exact .inr ⟨hno, .inr ⟨hv, fun x h1 h2 h3 h4 => hx x h1 h2 h3 (by omega)⟩⟩⟩
theorem Mid.done (h : Mid M on a d M.length 0 H) (hN : Net M) (ha : a < M.length) : Told M on a (d + 1 + 1) H :=
  ⟨h.1, fun y hy => by
    rcases h.2 y hy with ⟨e, he, hf, hv⟩ | ⟨hno, ⟨hv, x, h1, h2, h3, h4⟩ | ⟨hv, hx⟩⟩
    · exact .inl ⟨e, by omega, hf, hv⟩
    · exact .inl ⟨d + 1, by omega, first_succ.2 ⟨⟨x, h1, h2⟩, h3, hno⟩, hv⟩
    · refine .inr ⟨fun e he hf => ?_, hv⟩
      rcases Nat.lt_or_ge e (d + 1) with h5 | h5
      · exact hno e h5 hf
      · obtain rfl : e = d + 1 := by omega
        obtain ⟨⟨x, h1, h2⟩, h3, _⟩ := first_succ.1 hf
        exact hx x h1 h2 h3 (.inl (reach_lt hN ha h1.1))⟩
theorem Told.first (ha : a < M.length) (hon : on.testBit a = true) : Told M on a 1 ((List.replicate M.length (-1)).set a 0) :=
  ⟨by simp, fun y hy => by
    by_cases e : y = a
    · subst e
      exact .inl ⟨0, by omega, first_zero.2 ⟨rfl, hon⟩, by simp [List.getD, hy]⟩
    · refine .inr ⟨fun e' he hf => ?_, ?_⟩
      · obtain rfl : e' = 0 := by omega
        exact e (first_zero.1 hf).1
      · rw [show ((List.replicate M.length (-1 : Int)).set a 0).getD y 0 = (List.replicate M.length (-1 : Int)).getD y 0 by simp only [List.getD, List.getElem?_set_ne (Ne.symm e)]]
        exact hops_none _ y hy⟩
theorem Told.last (h : Told M on a (M.length + 1) H) (hN : Net M) (ha : a < M.length) : IsHops M on a H :=
  h.done fun k hf => by
    have := first_lt hN ha hf
    omega
end
theorem bitsTo_done {x n : Nat} (hn : n ≤ 64) (h : ∀ j, x.testBit j = true → j < n) : bitsTo x n = bitsOf x := by
  have : ∀ m, bitsTo x (n + m) = bitsTo x n := by
    intro m
    induction m with
    | zero => rfl
    | succ m ih =>
      rw [← Nat.add_assoc, bitsTo_no, ih]
      rcases hb : x.testBit (n + m) with _ | _
      · rfl
      · have := h _ hb
        omega
  have h2 := this (64 - n)
  rw [show n + (64 - n) = 64 by omega, bitsTo_all] at h2
  exact h2.symm
end Go.Proofs.YtfekblikiemogaaDoor
