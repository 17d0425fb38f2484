/- Two tables side by side. -/
import Derived.Test.YtfeemjkjgbjejaaTbI
namespace Go.Proofs.Ytfeemjkjgbjejaa
open Go.RowKit
set_option linter.unusedVariables false
set_option linter.unusedSimpArgs false

/-- One that isn't taken. -/
theorem add_other (a b c : Int) (w : World) (g o : Nat) (t : TypeId) (pre post : List Value) (L : List Ent) (h : Tb w g o t pre post L) (hn : ¬ (CanE (a, b, c) ∧ Later L (a, b, c))) :
    Calls Try.prog 9 #[.pointer (some ⟨g, o, none⟩), .agg #[.int .i64 a, .int .i64 b, .int .i64 c]] w fun e w' => ∃ v : Int, e = .returned (.int .i64 v) ∧ (v == 0) = false ∧ Below w.heap.size w w' := by
  by_cases hc : CanE (a, b, c)
  · obtain ⟨M, x, y, z, rfl, hx⟩ := not_later (fun hl => hn ⟨hc, hl⟩)
    exact (add_late a b c w g o t pre post M x y z h hc hx).mono fun e w' ⟨he, hb⟩ => ⟨12, he, rfl, hb⟩
  · exact (add_bad a b c w _ hc).mono fun e w' ⟨he, hb⟩ => ⟨1, he, rfl, hb⟩
/-- One that may be taken, or not. -/
theorem add_some (a b c : Int) (w : World) (g o : Nat) (t : TypeId) (pre post : List Value) (L : List Ent) (h : Tb w g o t pre post L) :
    Calls Try.prog 9 #[.pointer (some ⟨g, o, none⟩), .agg #[.int .i64 a, .int .i64 b, .int .i64 c]] w fun e w' => ∃ (v : Int) (L' : List Ent), e = .returned (.int .i64 v) ∧ Tb w' g o t pre post L' ∧ Chg (fun k => k = g) w w' := by
  by_cases hn : CanE (a, b, c) ∧ Later L (a, b, c)
  · exact (add_any a b c w g o t pre post L h hn.1 hn.2).mono fun e w' ⟨he, ht, hc⟩ => ⟨0, _, he, ht, hc⟩
  · exact (add_other a b c w g o t pre post L h hn).mono fun e w' ⟨v, he, _, hb⟩ => ⟨v, L, he, h.below hb, Chg.of_below _ hb⟩

/-- Two tables, made one behind the other. -/
structure TwoT (w0 : World) (z : Nat) (L M : List Ent) (w : World) : Prop where
  a : Tb w z 0 29 [] [] L
  b : Tb w (z + 1) 0 29 [] [] M
  below : Below w0.heap.size w0 w
  old : w0.heap.size ≤ z
section
variable {w0 w w' : World} {z : Nat} {L M L' M' : List Ent}
theorem TwoT.stepA (h : TwoT w0 z L M w) (ht : Tb w' z 0 29 [] [] L') (hc : Chg (fun k => k = z) w w') : TwoT w0 z L' M w' := ⟨ht, h.b.chg hc (by omega), tb_below h.a h.below hc h.old, h.old⟩
theorem TwoT.stepB (h : TwoT w0 z L M w) (ht : Tb w' (z + 1) 0 29 [] [] M') (hc : Chg (fun k => k = z + 1) w w') : TwoT w0 z L M' w' := ⟨h.a.chg hc (by omega), ht, tb_below h.b h.below hc (by have := h.old; omega), h.old⟩
theorem TwoT.onto (h : TwoT w0 z L M w) (hb : Below w.heap.size w w') : TwoT w0 z L M w' := ⟨h.a.below hb, h.b.below hb, h.below.trans (hb.mono h.below.size), h.old⟩
theorem two_new (h : Below w0.heap.size w0 w) : TwoT w0 w.heap.size [] [] ((w.alloc (.cells #[.int .i64 0, .int .i64 0, .int .i64 0, .int .i64 0, .int .i64 0, .int .i64 0, .int .i64 0, .int .i64 0, .int .i64 0, .int .i64 0, .int .i64 0, .int .i64 0, .int .i64 0, .int .i64 0, .int .i64 0, .int .i64 0, .int .i64 0, .int .i64 0, .int .i64 0, .int .i64 0, .int .i64 0, .int .i64 0, .int .i64 0, .int .i64 0, .int .i64 0] 29)).alloc (.cells #[.int .i64 0, .int .i64 0, .int .i64 0, .int .i64 0, .int .i64 0, .int .i64 0, .int .i64 0, .int .i64 0, .int .i64 0, .int .i64 0, .int .i64 0, .int .i64 0, .int .i64 0, .int .i64 0, .int .i64 0, .int .i64 0, .int .i64 0, .int .i64 0, .int .i64 0, .int .i64 0, .int .i64 0, .int .i64 0, .int .i64 0, .int .i64 0, .int .i64 0] 29)) := by
  refine ⟨(tb_new w).below (below_alloc _ _), ?_, h.trans (((below_alloc w _).alloc (by simp) _).mono h.size), h.size⟩
  have := tb_new (w.alloc (.cells #[.int .i64 0, .int .i64 0, .int .i64 0, .int .i64 0, .int .i64 0, .int .i64 0, .int .i64 0, .int .i64 0, .int .i64 0, .int .i64 0, .int .i64 0, .int .i64 0, .int .i64 0, .int .i64 0, .int .i64 0, .int .i64 0, .int .i64 0, .int .i64 0, .int .i64 0, .int .i64 0, .int .i64 0, .int .i64 0, .int .i64 0, .int .i64 0, .int .i64 0] 29))
  rwa [size_alloc] at this
end
/-- Of the second table all is at the end of the first one's. -/
structure Ends (n : Nat) (L M : List Ent) : Prop where
  le : L.length ≤ 8
  suf : M <:+ L
  len : M.length = min n 8
theorem ends_nil {L : List Ent} (h : L.length ≤ 8) : Ends 0 L [] := ⟨h, List.nil_suffix, rfl⟩
theorem Ends.later {n : Nat} {L M : List Ent} (h : Ends n L M) {e : Ent} (hl : Later L e) : Later M e := fun x hx => by
  obtain ⟨P, rfl⟩ := h.suf
  refine hl x ?_
  rw [List.getLast?_append, hx]
  rfl
theorem Ends.push {n : Nat} {L M : List Ent} (h : Ends n L M) (e : Ent) : Ends (n + 1) (pushL L e) (pushL M e) := by
  obtain ⟨h8, ⟨P, rfl⟩, hlen⟩ := h
  have hl : (P ++ M).length = P.length + M.length := List.length_append
  have hm8 : M.length ≤ 8 := by omega
  refine ⟨pushL_len h8 e, ?_, ?_⟩
  · unfold pushL
    by_cases h1 : (P ++ M).length = 8
    · rw [if_pos h1]
      by_cases h2 : M.length = 8
      · obtain rfl : P = [] := List.eq_nil_of_length_eq_zero (by omega)
        rw [if_pos h2]
        exact List.suffix_refl _
      · rw [if_neg h2]
        cases P with
        | nil => exact absurd h1 h2
        | cons x P => exact ⟨P, by simp⟩
    · rw [if_neg h1, if_neg (by omega)]
      exact ⟨P, by simp⟩
  · unfold pushL
    split
    · rw [List.length_append, List.length_tail]
      simp
      omega
    · rw [List.length_append]
      simp
      omega
theorem Ends.same {n : Nat} {L M : List Ent} (h : Ends n L M) (hn : 8 ≤ n) : M = L ∧ L.length = 8 := by
  obtain ⟨h8, ⟨P, rfl⟩, hlen⟩ := h
  have hl : (P ++ M).length = P.length + M.length := List.length_append
  obtain rfl : P = [] := List.eq_nil_of_length_eq_zero (by omega)
  rw [List.nil_append]
  exact ⟨rfl, by omega⟩
end Go.Proofs.Ytfeemjkjgbjejaa
