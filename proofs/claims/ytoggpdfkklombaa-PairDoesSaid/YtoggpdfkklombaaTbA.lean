/- Package table: what a table is in memory; Good, Len, Last. -/
import Derived.Test.YtoggpdfkklombaaTbM
import Derived.Test.YtoggpdfkklombaaTurn
import Derived.Test.YtoggpdfkklombaaProg
import Derived.Outline
import Derived.LoopTactic
import Derived.Deep.RegionLaw
import Derived.Deep.CutBlock
namespace Go.Proofs.Ytoggpdfkklombaa
open Go.RowKit
set_option linter.unusedSimpArgs false
set_option linter.unusedVariables false

/-- Can an entry be? -/
structure CanE (e : Ent) : Prop where
  l1 : 0 ≤ e.1
  l2 : e.1 ≤ 1125899906842624
  o1 : -1125899906842624 ≤ e.2.1
  o2 : e.2.1 ≤ 1125899906842624
  h1 : 1 ≤ e.2.2
  h2 : e.2.2 ≤ 63
theorem not_canE {a b c : Int} (h : ¬ CanE (a, b, c)) : a < 0 ∨ (0 ≤ a ∧ 1125899906842624 < a) ∨ (0 ≤ a ∧ a ≤ 1125899906842624 ∧ b < -1125899906842624) ∨ (0 ≤ a ∧ a ≤ 1125899906842624 ∧ -1125899906842624 ≤ b ∧ 1125899906842624 < b)
    ∨ (0 ≤ a ∧ a ≤ 1125899906842624 ∧ -1125899906842624 ≤ b ∧ b ≤ 1125899906842624 ∧ c < 1) ∨ (0 ≤ a ∧ a ≤ 1125899906842624 ∧ -1125899906842624 ≤ b ∧ b ≤ 1125899906842624 ∧ 1 ≤ c ∧ 63 < c) := by
  refine Classical.byContradiction fun g => h ⟨?_, ?_, ?_, ?_, ?_, ?_⟩ <;> dsimp only <;> omega
/-- An entry as a value. -/
def entV (e : Ent) : Value := .agg #[.int .i64 e.1, .int .i64 e.2.1, .int .i64 e.2.2]

theorem good_yes (a b c : Int) (w : World) (h : CanE (a, b, c)) :
    Calls Try.prog 31 #[.agg #[.int .i64 a, .int .i64 b, .int .i64 c]] w fun e w' => e = .returned (.bool true) ∧ Below w.heap.size w w' := by
  obtain ⟨h1, h2, h3, h4, h5, h6⟩ := h
  dsimp only at h1 h2 h3 h4 h5 h6
  have d1 : decide (a < 0) = false := decide_eq_false (by omega)
  have d2 : decide (1125899906842624 < a) = false := decide_eq_false (by omega)
  have d3 : decide (b < -1125899906842624) = false := decide_eq_false (by omega)
  have d4 : decide (1125899906842624 < b) = false := decide_eq_false (by omega)
  have k := (Holds.new w 40 #[.int .i64 a, .int .i64 b, .int .i64 c])
  have c0 := k.cell 0
  have c1 := k.cell 1
  have c2 := k.cell 2
  clear k
  go_enter Try.func31, Try.ntmps31
  go_wp2
  go_ret
  exact ⟨rfl, below_alloc _ _⟩
theorem good_no (a b c : Int) (w : World) (h : ¬ CanE (a, b, c)) :
    Calls Try.prog 31 #[.agg #[.int .i64 a, .int .i64 b, .int .i64 c]] w fun e w' => e = .returned (.bool false) ∧ Below w.heap.size w w' := by
  have k := (Holds.new w 40 #[.int .i64 a, .int .i64 b, .int .i64 c])
  have c0 := k.cell 0
  have c1 := k.cell 1
  have c2 := k.cell 2
  clear k
  rcases not_canE h with h1 | ⟨h1, h2⟩ | ⟨h1, h2, h3⟩ | ⟨h1, h2, h3, h4⟩ | ⟨h1, h2, h3, h4, h5⟩ | ⟨h1, h2, h3, h4, h5, h6⟩
  all_goals
    clear h
    try have d1 : decide (a < 0) = false := decide_eq_false (by omega)
    try have d2 : decide (1125899906842624 < a) = false := decide_eq_false (by omega)
    try have d3 : decide (b < -1125899906842624) = false := decide_eq_false (by omega)
    try have d4 : decide (1125899906842624 < b) = false := decide_eq_false (by omega)
    try have d5 : decide (1 ≤ c) = false := decide_eq_false (by omega)
    try have d6 : decide (c ≤ 63) = false := decide_eq_false (by omega)
    go_enter Try.func31, Try.ntmps31
    go_wp2
    go_ret
    exact ⟨rfl, below_alloc _ _⟩
theorem rgood_yes (a b c : Int) (w : World) (h : CanE (a, b, c)) :
    Calls Try.prog 34 #[.agg #[.int .i64 a, .int .i64 b, .int .i64 c]] w fun e w' => e = .returned (.bool true) ∧ Below w.heap.size w w' := by
  obtain ⟨h1, h2, h3, h4, h5, h6⟩ := h
  dsimp only at h1 h2 h3 h4 h5 h6
  have k := (Holds.new w 55 #[.int .i64 a, .int .i64 b, .int .i64 c])
  have c0 := k.cell 0
  have c1 := k.cell 1
  have c2 := k.cell 2
  clear k
  go_enter Try.func34, Try.ntmps34
  go_wp2
  go_ret
  exact ⟨rfl, below_alloc _ _⟩
theorem rgood_no (a b c : Int) (w : World) (h : ¬ CanE (a, b, c)) :
    Calls Try.prog 34 #[.agg #[.int .i64 a, .int .i64 b, .int .i64 c]] w fun e w' => e = .returned (.bool false) ∧ Below w.heap.size w w' := by
  have k := (Holds.new w 55 #[.int .i64 a, .int .i64 b, .int .i64 c])
  have c0 := k.cell 0
  have c1 := k.cell 1
  have c2 := k.cell 2
  clear k
  rcases not_canE h with h1 | ⟨h1, h2⟩ | ⟨h1, h2, h3⟩ | ⟨h1, h2, h3, h4⟩ | ⟨h1, h2, h3, h4, h5⟩ | ⟨h1, h2, h3, h4, h5, h6⟩
  all_goals
    clear h
    try have d1 : decide (0 ≤ a) = false := decide_eq_false (by omega)
    try have d2 : decide (a ≤ 1125899906842624) = false := decide_eq_false (by omega)
    try have d3 : decide (-1125899906842624 ≤ b) = false := decide_eq_false (by omega)
    try have d4 : decide (b ≤ 1125899906842624) = false := decide_eq_false (by omega)
    try have d5 : decide (1 ≤ c) = false := decide_eq_false (by omega)
    try have d6 : decide (c ≤ 63) = false := decide_eq_false (by omega)
    go_enter Try.func34, Try.ntmps34
    go_wp2
    go_ret
    exact ⟨rfl, below_alloc _ _⟩

/-- A table within block g, behind the cells pre and ahead of the cells post: K is its eight places, of which the first are its entries. -/
structure T0 (w : World) (g o : Nat) (t : TypeId) (pre post : List Value) (K L : List Ent) : Prop where
  at' : pre.length = o
  eight : K.length = 8
  le : L.length ≤ 8
  is : K.take L.length = L
  holds : Holds w g t (tcs pre post K L.length).toArray
def Tb (w : World) (g o : Nat) (t : TypeId) (pre post : List Value) (L : List Ent) : Prop := ∃ K, T0 w g o t pre post K L
section
variable {w w' : World} {g o : Nat} {t : TypeId} {pre post : List Value} {K L : List Ent}
theorem T0.count (h : T0 w g o t pre post K L) : w.cell? ⟨g, o + 24, none⟩ = some (.int .i64 L.length) := by
  rw [h.holds.cell, List.getElem?_toArray, tcs_num h.eight h.at']
theorem T0.soft (h : T0 w g o t pre post K L) (i : Nat) : w.frozen? ⟨g, i, none⟩ = false := h.holds.soft i
theorem T0.place (h : T0 w g o t pre post K L) {i : Nat} {e : Ent} (hi : K[i]? = some e) :
    w.cell? ⟨g, o + i * 3, none⟩ = some (.int .i64 e.1) ∧ w.cell? ⟨g, o + i * 3 + 1, none⟩ = some (.int .i64 e.2.1) ∧ w.cell? ⟨g, o + i * 3 + 2, none⟩ = some (.int .i64 e.2.2) := by
  have hi8 : i < 8 := by have := (List.getElem?_eq_some_iff.1 hi).1; rw [h.eight] at this; exact this
  obtain ⟨g0, g1, g2⟩ := trs_get K i e hi
  have key : ∀ j, j < 24 → w.cell? ⟨g, o + j, none⟩ = (trs K)[j]? := fun j hj => by
    rw [h.holds.cell, List.getElem?_toArray, tcs_at h.eight h.at' hj]
  exact ⟨(key _ (by omega)).trans g0, by rw [Nat.add_assoc]; exact (key _ (by omega)).trans g1, by rw [Nat.add_assoc]; exact (key _ (by omega)).trans g2⟩
theorem T0.ent (h : T0 w g o t pre post K L) {i : Nat} (hi : i < L.length) : K[i]? = L[i]? := by
  have := congrArg (·[i]?) h.is
  simp only [List.getElem?_take, if_pos hi] at this
  exact this
theorem T0.at (h : T0 w g o t pre post K L) {i : Nat} {e : Ent} (hi : L[i]? = some e) :
    w.cell? ⟨g, o + i * 3, none⟩ = some (.int .i64 e.1) ∧ w.cell? ⟨g, o + i * 3 + 1, none⟩ = some (.int .i64 e.2.1) ∧ w.cell? ⟨g, o + i * 3 + 2, none⟩ = some (.int .i64 e.2.2) :=
  h.place ((h.ent (List.getElem?_eq_some_iff.1 hi).1).trans hi)
theorem T0.chg {S : Nat → Prop} (h : T0 w g o t pre post K L) (hc : Chg S w w') (hn : ¬ S g) : T0 w' g o t pre post K L := { h with holds := h.holds.chg hc hn }
theorem Tb.chg {S : Nat → Prop} (h : Tb w g o t pre post L) (hc : Chg S w w') (hn : ¬ S g) : Tb w' g o t pre post L := by
  obtain ⟨K, h⟩ := h
  exact ⟨K, h.chg hc hn⟩
theorem Tb.below (h : Tb w g o t pre post L) (hb : Below w.heap.size w w') : Tb w' g o t pre post L := h.chg (Chg.of_below (fun _ => False) hb) id
theorem Tb.lt (h : Tb w g o t pre post L) : g < w.heap.size := by
  obtain ⟨K, h⟩ := h
  exact h.holds.lt
theorem Tb.le (h : Tb w g o t pre post L) : L.length ≤ 8 := by
  obtain ⟨K, h⟩ := h
  exact h.le
end


end Go.Proofs.Ytoggpdfkklombaa
