/- Tables: what rises, what is newest. -/
import Derived.Test.YtkibpialacnlhaaTbH
import Derived.Test.YtkibpialacnlhaaTbE
namespace Go.Proofs.Ytkibpialacnlhaa
open Go.RowKit
set_option linter.unusedVariables false
set_option linter.unusedSimpArgs false

def Rising (L : List Ent) : Prop := L.Pairwise fun x y => x.1 < y.1
theorem rising_nil : Rising [] := List.Pairwise.nil
theorem rising_push {L : List Ent} {e : Ent} (h : Rising L) (hl : Later L e) : Rising (pushL L e) := by
  have hall : ∀ x ∈ L, x.1 < e.1 := fun x hx => by
    rcases List.eq_nil_or_concat L with rfl | ⟨M, y, rfl⟩
    · cases hx
    · rw [List.concat_eq_append] at h hx hl
      have hy := hl y (by simp)
      rcases List.mem_append.1 hx with hx | hx
      · have := (List.pairwise_append.1 h).2.2 x hx y (by simp)
        omega
      · simp only [List.mem_singleton] at hx
        subst hx
        exact hy
  have key : ∀ M : List Ent, M.Sublist L → Rising (M ++ [e]) := fun M hM =>
    List.pairwise_append.2 ⟨List.Pairwise.sublist hM h, List.pairwise_singleton _ _, fun x hx y hy => by
      simp only [List.mem_singleton] at hy
      subst hy
      exact hall x (hM.subset hx)⟩
  unfold pushL
  split
  · exact key _ (List.tail_sublist _)
  · exact key _ (List.Sublist.refl _)
theorem rising_at {L : List Ent} (h : Rising L) {i : Nat} {x y : Ent} (hx : L[i]? = some x) (hy : L[i + 1]? = some y) : x.1 < y.1 := by
  obtain ⟨h1, e1⟩ := List.getElem?_eq_some_iff.1 hx
  obtain ⟨h2, e2⟩ := List.getElem?_eq_some_iff.1 hy
  have := List.pairwise_iff_getElem.1 h i (i + 1) h1 h2 (Nat.lt_succ_self _)
  rw [e1, e2] at this
  exact this
theorem push_snoc (L : List Ent) (e : Ent) : ∃ M, pushL L e = M ++ [e] := by
  unfold pushL
  split
  · exact ⟨_, rfl⟩
  · exact ⟨_, rfl⟩
theorem not_later {L : List Ent} {a b c : Int} (h : ¬ Later L (a, b, c)) : ∃ M x y z, L = M ++ [(x, y, z)] ∧ a ≤ x := by
  rcases List.eq_nil_or_concat L with rfl | ⟨M, x, rfl⟩
  · exact absurd (later_nil _) h
  · obtain ⟨x, y, z⟩ := x
    rw [List.concat_eq_append] at h ⊢
    refine ⟨M, x, y, z, rfl, ?_⟩
    refine Classical.byContradiction fun hn => h fun v hv => ?_
    simp at hv
    subst hv
    show x < a
    omega
theorem ents_at {w : World} {B : Nat} {t : TypeId} {g n c : Nat} {L : List Ent} (h : w.ownsRow B t 3 (.slice (some ⟨g, 0, none⟩) n c) n (trs L)) {i : Nat} {x : Ent} (hx : L[i]? = some x) :
    w.cell? ⟨g, i * 3, none⟩ = some (.int .i64 x.1) ∧ w.cell? ⟨g, i * 3 + 1, none⟩ = some (.int .i64 x.2.1) ∧ w.cell? ⟨g, i * 3 + 2, none⟩ = some (.int .i64 x.2.2) := by
  obtain ⟨b, off, e, q0, q1, q2⟩ := (TRow.of_own h).at hx
  simp only [Option.some.injEq, Addr.mk.injEq, and_true] at e
  obtain ⟨rfl, rfl⟩ := e
  rw [Nat.zero_add] at q0 q1 q2
  exact ⟨q0, q1, q2⟩
end Go.Proofs.Ytkibpialacnlhaa
