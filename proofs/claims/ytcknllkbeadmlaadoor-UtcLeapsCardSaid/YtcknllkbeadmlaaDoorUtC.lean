/- Package utc: the second of a text; the document's own. -/
import Derived.Test.YtcknllkbeadmlaaDoorUtB
import Derived.Test.YtcknllkbeadmlaaDoorCvQ
import Derived.Test.YtcknllkbeadmlaaDoorCvR
import Derived.Test.YtcknllkbeadmlaaDoorCvW
import Derived.Test.YtcknllkbeadmlaaDoorLpD
import Derived.Laws.DeepStrings4
namespace Go.Proofs.YtcknllkbeadmlaaDoor
open Go.RowKit
set_option linter.unusedSimpArgs false
set_option linter.unusedVariables false

theorem one_ints6 (a b c d e f : Int) : ∀ v ∈ ([.int .i64 a, .int .i64 b, .int .i64 c, .int .i64 d, .int .i64 e, .int .i64 f] : List Value), v.oneCell' = true := by intro v hv; simp at hv; rcases hv with rfl | rfl | rfl | rfl | rfl | rfl <;> rfl
theorem Box.six {w0 w : World} {t : TypeId} {a b c d e f : Value} (h : Box w0 t #[a, b, c, d, e, f] w) : w.cell? ⟨w0.heap.size, 0, none⟩ = some a ∧ w.cell? ⟨w0.heap.size, 1, none⟩ = some b ∧ w.cell? ⟨w0.heap.size, 2, none⟩ = some c ∧ w.cell? ⟨w0.heap.size, 3, none⟩ = some d ∧ w.cell? ⟨w0.heap.size, 4, none⟩ = some e ∧ w.cell? ⟨w0.heap.size, 5, none⟩ = some f ∧
    w.frozen? ⟨w0.heap.size, 0, none⟩ = false ∧ w.frozen? ⟨w0.heap.size, 1, none⟩ = false ∧ w.frozen? ⟨w0.heap.size, 2, none⟩ = false ∧ w.frozen? ⟨w0.heap.size, 3, none⟩ = false ∧ w.frozen? ⟨w0.heap.size, 4, none⟩ = false ∧ w.frozen? ⟨w0.heap.size, 5, none⟩ = false :=
  ⟨h.holds.cell 0, h.holds.cell 1, h.holds.cell 2, h.holds.cell 3, h.holds.cell 4, h.holds.cell 5, h.holds.soft 0, h.holds.soft 1, h.holds.soft 2, h.holds.soft 3, h.holds.soft 4, h.holds.soft 5⟩
theorem Box.fill {w0 w : World} {t : TypeId} {a b c d e f : Value} (h : Box w0 t #[a, b, c, d, e, f] w) (a' b' c' d' e' f' : Value) :
    Box w0 t #[a', b', c', d', e', f'] ((((((w.setCell ⟨w0.heap.size, 0, none⟩ a').setCell ⟨w0.heap.size, 1, none⟩ b').setCell ⟨w0.heap.size, 2, none⟩ c').setCell ⟨w0.heap.size, 3, none⟩ d').setCell ⟨w0.heap.size, 4, none⟩ e').setCell ⟨w0.heap.size, 5, none⟩ f') :=
  (((((h.put 0 a').put 1 b').put 2 c').put 3 d').put 4 e').put 5 f'
/-- A block that is made later is another one: what is stored there leaves the first one as it was. -/
theorem Box.aside {w0 w : World} {t : TypeId} {cs : Array Value} (h : Box w0 t cs w) {x : Nat} (hx : w0.heap.size < x) (r : Array Value) : Box w0 t cs (w.setRow x r) :=
  ⟨h.holds.grown (grown_row _ _ _) (fun e => by have := Option.some.inj e; omega), h.below.grown (grown_row _ _ _) h.below.size (fun k e => by have := Option.some.inj e; omega)⟩
theorem num_w {b : Int} (h1 : 0 ≤ b) (h2 : b ≤ 255) : IntKind.u8.wrap (b - 48) = (b - 48) % 256 := by rw [wrap_u8]
theorem unum_any (s : ByteArray) (a : Nat) (N : Int) (w : World) (hN : N = (a : Int)) (hs : s.size = 20) (ha : a + 1 < 20) :
    Calls Tryd.prog 42 #[.string s, .int .i64 N] w fun e w' => e = .returned (.int .i64 (numW s a)) ∧ Below w.heap.size w w' := by
  subst hN
  have i0 := fun W => run_byte s a (by omega) W
  have i1 : ∀ W, (Instr.index 9 (.string s) (.int .i64 ((a : Int) + 1))).run Tryd.prog W = .ok (.int .u8 (byt s (a + 1))) W := fun W => by
    have := run_byte s (a + 1) (by omega) W
    rwa [Int.natCast_add] at this
  have b0 := byt_bd s a
  have b1 := byt_bd s (a + 1)
  unfold numW
  obtain ⟨B, hB⟩ : ∃ B, byt s a = B := ⟨_, rfl⟩
  obtain ⟨C, hC⟩ : ∃ C, byt s (a + 1) = C := ⟨_, rfl⟩
  simp only [hB, hC] at i0 i1 b0 b1 ⊢
  have e0 := IntWalk.i64_in ((a : Int) + 1) (by omega)
  have w0 := num_w b0.1 b0.2
  have w1 := num_w b1.1 b1.2
  obtain ⟨X, hX⟩ : ∃ X, (B - 48) % 256 = X := ⟨_, rfl⟩
  obtain ⟨Y, hY⟩ : ∃ X, (C - 48) % 256 = X := ⟨_, rfl⟩
  have x0 : 0 ≤ X ∧ X < 256 := by omega
  have y0 : 0 ≤ Y ∧ Y < 256 := by omega
  rw [hX] at w0
  rw [hY] at w1
  simp only [hX, hY]
  have e1 := IntWalk.i64_in X (by omega)
  have e2 := IntWalk.i64_in Y (by omega)
  have e3 := IntWalk.i64_in (10 * X) (by omega)
  have e4 := IntWalk.i64_in (10 * X + Y) (by omega)
  clear hB hC hX hY
  go_enter Tryd.func42, Tryd.ntmps42
  go_upto_region 1 with (fail)
  go_quiet (fail)
  go_wp2
  go_ret
  exact ⟨rfl, below_drewN (Below.refl _ _) _⟩
theorem numD_no {s : ByteArray} {a : Nat} (h : ¬ ((48 ≤ byt s a ∧ byt s a ≤ 57) ∧ (48 ≤ byt s (a + 1) ∧ byt s (a + 1) ≤ 57))) : numD s a 2 = -1 := by
  unfold numD
  rw [if_neg]
  exact fun k => h ⟨k 0 (by decide), k 1 (by decide)⟩
theorem runum_any (s t : ByteArray) (a : Nat) (w : World) (ht : t.size = 2) (hb : ∀ j, j < 2 → byt t j = byt s (a + j)) :
    Calls Tryd.prog 44 #[.string t] w fun e w' => e = .returned (.int .i64 (numD s a 2)) ∧ Below w.heap.size w w' := by
  have i0 : ∀ W, (Instr.index 9 (.string t) (.int .i64 0)).run Tryd.prog W = .ok (.int .u8 (byt s a)) W := fun W => by
    have := run_byte t 0 (by omega) W
    rwa [hb 0 (by decide)] at this
  have i1 : ∀ W, (Instr.index 9 (.string t) (.int .i64 1)).run Tryd.prog W = .ok (.int .u8 (byt s (a + 1))) W := fun W => by
    have := run_byte t 1 (by omega) W
    rwa [hb 1 (by decide)] at this
  have b0 := byt_bd s a
  have b1 := byt_bd s (a + 1)
  have hyes := numD_of (s := s) (a := a)
  have hno := numD_no (s := s) (a := a)
  obtain ⟨V, hV⟩ : ∃ V, numD s a 2 = V := ⟨_, rfl⟩
  obtain ⟨B, hB⟩ : ∃ B, byt s a = B := ⟨_, rfl⟩
  obtain ⟨C, hC⟩ : ∃ C, byt s (a + 1) = C := ⟨_, rfl⟩
  simp only [hB, hC, hV] at i0 i1 b0 b1 hyes hno ⊢
  clear hB hC hV hb
  have cs : (B < 48) ∨ (48 ≤ B ∧ 57 < B) ∨ (48 ≤ B ∧ B ≤ 57 ∧ C < 48) ∨ (48 ≤ B ∧ B ≤ 57 ∧ 48 ≤ C ∧ 57 < C) ∨ ((48 ≤ B ∧ B ≤ 57) ∧ (48 ≤ C ∧ C ≤ 57)) := by omega
  rcases cs with h1 | ⟨h1, h2⟩ | ⟨h1, h2, h3⟩ | ⟨h1, h2, h3, h4⟩ | ⟨⟨h1, h2⟩, ⟨h3, h4⟩⟩
  case inr.inr.inr.inr =>
    rw [hyes ⟨h1, h2⟩ ⟨h3, h4⟩]
    clear hyes hno
    have d1 : decide (B < 48) = false := decide_eq_false (by omega)
    have d2 : decide (57 < B) = false := decide_eq_false (by omega)
    have d3 : decide (C < 48) = false := decide_eq_false (by omega)
    have d4 : decide (57 < C) = false := decide_eq_false (by omega)
    have w0 : IntKind.u8.wrap (B - 48) = B - 48 := by rw [wrap_u8]; omega
    have w1 : IntKind.u8.wrap (C - 48) = C - 48 := by rw [wrap_u8]; omega
    have e1 := IntWalk.i64_in (B - 48) (by omega)
    have e2 := IntWalk.i64_in (C - 48) (by omega)
    have e3 := IntWalk.i64_in (10 * (B - 48)) (by omega)
    have e4 := IntWalk.i64_in (10 * (B - 48) + (C - 48)) (by omega)
    go_enter Tryd.func44, Tryd.ntmps44
    go_upto_region 3 with (fail)
    go_quiet (fail)
    go_wp2
    go_ret
    exact ⟨rfl, below_drewN (Below.refl _ _) _⟩
  all_goals
    rw [hno (by omega)]
    clear hyes hno
    try have d1 : decide (B < 48) = false := decide_eq_false (by omega)
    try have d2 : decide (57 < B) = false := decide_eq_false (by omega)
    try have d3 : decide (C < 48) = false := decide_eq_false (by omega)
    try have d4 : decide (57 < C) = false := decide_eq_false (by omega)
    go_enter Tryd.func44, Tryd.ntmps44
    go_wp2
    go_ret
    exact ⟨rfl, Below.refl _ _⟩
end Go.Proofs.YtcknllkbeadmlaaDoor
