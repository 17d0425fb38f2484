/- Layer 18: what is asked and taken where a law knows it. -/
import Derived.Test.YtoggpdfkklombaaPrI
namespace Go.Proofs.Ytoggpdfkklombaa
open Go.RowKit
set_option linter.unusedVariables false
set_option linter.unusedSimpArgs false

theorem askB_yes {p : PS} {tt l : Int} (h1 : p.w = false) (h2 : p.rests ≤ 0) (h3 : tt ≠ p.me) (h4 : 0 ≤ p.me ∧ p.me ≤ 63) (h5 : 0 ≤ tt ∧ tt ≤ 63) (h6 : 0 ≤ l ∧ l ≤ 1125899906842624) : askB p tt l = true := by
  have e2 : decide (0 < p.rests) = false := decide_eq_false (by omega)
  have e3 : (tt == p.me) = false := by simpa using h3
  have e4 : pulseB p.me tt l = true := (pulseB_iff _ _ _).2 ⟨⟨h4, h5⟩, h6⟩
  unfold askB
  rw [h1, e2, e3, e4]
  rfl
theorem askB_waits {p : PS} {tt l : Int} (h : p.w = true) : askB p tt l = false := by
  unfold askB
  rw [h]
  rfl
theorem askB_rests {p : PS} {tt l : Int} (h : 0 < p.rests) : askB p tt l = false := by
  unfold askB
  rw [decide_eq_true h]
  cases p.w <;> rfl
theorem takenB_yes {p : PS} {fr tt se got back hops l : Int} (h1 : p.w = true) (h2 : tt = p.me) (h3 : fr = p.t) (h4 : se = p.s) (h5 : goodT se got back l = true) (h6 : 0 ≤ hops ∧ hops ≤ 62) : takenB p fr tt se got back hops l = true := by
  have e2 : (tt == p.me) = true := by simpa using h2
  have e3 : (fr == p.t) = true := by simpa using h3
  have e4 : (se == p.s) = true := by simpa using h4
  unfold takenB askedB
  rw [h1, e2, e3, e4, h5, decide_eq_true h6]
  rfl
theorem askedB_sent {p : PS} {fr tt se : Int} (h : se ≠ p.s) : askedB p fr tt se = false := by
  have e : (se == p.s) = false := by simpa using h
  unfold askedB
  rw [e]
  simp
theorem N1.far {w wr : World} {g : Nat} {p : PS} (h : N1 w wr g p) {x i : Nat} (hx : x ≠ g) (ho : w.heap.size ≤ x) (u : Value) : N1 w (wr.setCell ⟨x, i, none⟩ u) g p :=
  ⟨Holds.far h.node (fun e => hx e.symm) u, h.below.setCell (p := ⟨x, i, none⟩) ho u, h.new⟩
end Go.Proofs.Ytoggpdfkklombaa
