/- Package slope: apart, Most, within; the document's Most. -/
import Derived.Test.YtkibpialacnlhaaTbA
import Derived.Test.YtkibpialacnlhaaTbR
import Derived.Test.YtkibpialacnlhaaFxA
import Derived.Test.YtkibpialacnlhaaSpM
import Derived.Test.YtkibpialacnlhaaBox
import Derived.BigQuiet
import Derived.LoopTactic
namespace Go.Proofs.Ytkibpialacnlhaa
open Go.RowKit
set_option linter.unusedVariables false
set_option linter.unusedSimpArgs false

theorem sl_size : (Try.prog.info? 29).map (·.size) = some 2 := by kernel_rfl
/-- The end of a call that answers a fraction, which lies in a variable of its own. -/
theorem end_sl {fn : Func} {p : Tmp} {R : Ending → World → Prop} {a : Act} {w : World} {g : Nat} {x y : Value} (h : fn.results = #[.cell p 29]) (hp : a.tmps.getD p undef = .pointer (some ⟨g, 0, none⟩))
    (hg : Holds w g 29 #[x, y]) (hd : a.defers = []) (hR : R (.returned (.agg #[x, y])) w) : bodyPost Try.prog fn R .ret a w :=
  bodyPost_ret (results_cell_row h _ _ g 29 _ (0, 0) _ hp hg Try.underlying29 rfl sl_size) hd hR
theorem apart_any (a1 a2 a3 b1 b2 b3 : Int) (w : World) (h1 : Fits (b1 - a1)) (h2 : Fits (b2 - a2)) :
    Calls Try.prog 49 #[.agg #[.int .i64 a1, .int .i64 a2, .int .i64 a3], .agg #[.int .i64 b1, .int .i64 b2, .int .i64 b3]] w fun e w' => e = .returned (.tuple #[.int .i64 (b1 - a1), .int .i64 (b2 - a2)]) ∧ Below w.heap.size w w' := by
  have k := (Holds.new w 50 #[.int .i64 a1, .int .i64 a2, .int .i64 a3])
  have HW := Lib.hid (below_alloc w (.cells #[.int .i64 a1, .int .i64 a2, .int .i64 a3] 50))
  have k' := (Holds.new (w.alloc (.cells #[.int .i64 a1, .int .i64 a2, .int .i64 a3] 50)) 50 #[.int .i64 b1, .int .i64 b2, .int .i64 b3])
  have hsz := size_alloc w (.cells #[.int .i64 a1, .int .i64 a2, .int .i64 a3] 50)
  have hk := k.below (below_alloc (w.alloc (.cells #[.int .i64 a1, .int .i64 a2, .int .i64 a3] 50)) (.cells #[.int .i64 b1, .int .i64 b2, .int .i64 b3] 50)) k.lt
  rw [hsz] at k'
  have c0 := hk.cell 0
  have c1 := hk.cell 1
  have d0 := k'.cell 0
  have d1 := k'.cell 1
  have e1 := IntWalk.i64_in (b1 - a1) (by unfold Fits at h1; omega)
  have e2 := IntWalk.i64_in (b2 - a2) (by unfold Fits at h2; omega)
  clear k k' hk hsz
  go_enter Try.func49, Try.ntmps49
  go_wp2
  go_quiet (fail)
  go_wp2
  go_ret2
  exact ⟨rfl, below_drewN (HW.out.alloc (by simp) _) _⟩

/-- What a drift counts. -/
def dV (d : Int) : Int := if d < 0 then 0 else if 10 < d then 10 else d
theorem dV_bd (d : Int) : 0 ≤ dV d ∧ dV d ≤ 10 := by
  unfold dV
  split
  · omega
  · split <;> omega
theorem clamp_d (d : Int) : clampV d 0 10 = dV d := by
  unfold clampV dV
  by_cases h : d < 0
  · rw [if_pos (.inl h), if_pos h]
  · rw [if_neg (by omega), if_neg h]
/-- A fraction, as a value. -/
def slV (p : Int × Int) : Value := .agg #[.int .i64 p.1, .int .i64 p.2]
theorem most_any (d : Int) (w : World) :
    Calls Try.prog 42 #[.int .i64 d] w fun e w' => e = .returned (.agg #[.int .i64 (2 * dV d), .int .i64 (1000 - dV d)]) ∧ Below w.heap.size w w' := by
  have hb := dV_bd d
  have hc := clamp_d d
  have e1 := IntWalk.i64_in (2 * dV d) (by omega)
  have e2 := IntWalk.i64_in (1000 - dV d) (by omega)
  have HB := Lib.hid (below_alloc w (.cells #[.int .i64 (2 * dV d), .int .i64 (1000 - dV d)] 29))
  go_enter Try.func42, Try.ntmps42
  go_wp2_with (go_at_call 50; refine (clamp_any d 0 10 _).mono ?_; rintro e w' ⟨rfl, rfl⟩; rw [hc])
  exact end_sl rfl rfl (Holds.new _ _ _) rfl ⟨rfl, HB.out⟩
theorem rmost_any (d : Int) (w : World) :
    Calls Try.prog 14 #[.int .i64 d] w fun e w' => e = .returned (.tuple #[.int .i64 (2 * dV d), .int .i64 (1000 - dV d)]) ∧ w' = w := by
  have hb := dV_bd d
  have e1 := IntWalk.i64_in (2 * dV d) (by omega)
  have e2 := IntWalk.i64_in (1000 - dV d) (by omega)
  have hd : min (max d 0) 10 = dV d := by unfold dV; (repeat' split) <;> omega
  go_enter Try.func14, Try.ntmps14
  go_wp2
  go_ret2
  exact ⟨rfl, rfl⟩
theorem within_any (a b c d : Int) (w : World) (h1 : Fits (a * d)) (h2 : Fits (c * b)) (h3 : Fits (-(c * b))) (h4 : Fits (-c)) :
    Calls Try.prog 41 #[.agg #[.int .i64 a, .int .i64 b], .agg #[.int .i64 c, .int .i64 d]] w fun e w' => e = .returned (slV (clampS a b c d)) ∧ Below w.heap.size w w' := by
  have k := (Holds.new w 29 #[.int .i64 a, .int .i64 b])
  have HW := Lib.hid (below_alloc w (.cells #[.int .i64 a, .int .i64 b] 29))
  have k' := (Holds.new (w.alloc (.cells #[.int .i64 a, .int .i64 b] 29)) 29 #[.int .i64 c, .int .i64 d])
  have hsz := size_alloc w (.cells #[.int .i64 a, .int .i64 b] 29)
  have hk := k.below (below_alloc (w.alloc (.cells #[.int .i64 a, .int .i64 b] 29)) (.cells #[.int .i64 c, .int .i64 d] 29)) k.lt
  rw [hsz] at k'
  have e1 := IntWalk.i64_in (a * d) (by unfold Fits at h1; omega)
  have e2 := IntWalk.i64_in (c * b) (by unfold Fits at h2; omega)
  have e3 := IntWalk.i64_in (-(c * b)) (by unfold Fits at h3; omega)
  have e4 := IntWalk.i64_in (-c) (by unfold Fits at h4; omega)
  have hv : clampS a b c d = if c * b < a * d then (c, d) else if c * b < -a * d then (-c, d) else (a, b) := rfl
  have HR := Lib.hid ((Holds.new ((w.alloc (.cells #[.int .i64 a, .int .i64 b] 29)).alloc (.cells #[.int .i64 c, .int .i64 d] 29)) 29 #[.int .i64 0, .int .i64 0]))
  have HL := Lib.hid ((HW.out.alloc (by simp) (.cells #[.int .i64 c, .int .i64 d] 29)).alloc (by rw [size_alloc, size_alloc]; omega) (.cells #[.int .i64 0, .int .i64 0] 29))
  have hsz2 := size_alloc (w.alloc (.cells #[.int .i64 a, .int .i64 b] 29)) (.cells #[.int .i64 c, .int .i64 d] 29)
  rw [hsz2, hsz] at HR
  clear hsz2
  have c0 := hk.cell 0
  have c1 := hk.cell 1
  have d0 := k'.cell 0
  have d1 := k'.cell 1
  obtain ⟨X, hX⟩ : ∃ X, a * d = X := ⟨_, rfl⟩
  obtain ⟨Y, hY⟩ : ∃ Y, c * b = Y := ⟨_, rfl⟩
  have hn : -a * d = -X := by rw [Int.neg_mul, hX]
  rw [hn] at hv
  rw [hX] at e1 hv
  rw [hY] at e2 e3 hv
  clear k k' hk hsz h1 h2 h3 h4 hn
  by_cases g1 : Y < X
  · rw [if_pos g1] at hv
    rw [hv]
    clear hv
    go_enter Try.func41, Try.ntmps41
    go_wp2
    go_quiet (fail)
    go_wp2
    exact end_sl rfl rfl (((HR.out.drewN _).put 0 _).put 1 _) rfl ⟨rfl, ((below_drewN HL.out _).setCell (by dsimp only; omega) _).setCell (by dsimp only; omega) _⟩
  · rw [if_neg g1] at hv
    have g1' : decide (Y < X) = false := decide_eq_false g1
    by_cases g2 : Y < -X
    · rw [if_pos g2] at hv
      rw [hv]
      have g3 : X < -Y := by omega
      clear hv
      go_enter Try.func41, Try.ntmps41
      go_wp2
      go_quiet (fail)
      go_wp2
      exact end_sl rfl rfl (((HR.out.drewN _).put 0 _).put 1 _) rfl ⟨rfl, ((below_drewN HL.out _).setCell (by dsimp only; omega) _).setCell (by dsimp only; omega) _⟩
    · rw [if_neg g2] at hv
      rw [hv]
      have g3 : ¬ X < -Y := by omega
      have g3' : decide (X < -Y) = false := decide_eq_false g3
      clear hv
      go_enter Try.func41, Try.ntmps41
      go_wp2
      go_quiet (fail)
      go_wp2
      exact end_sl rfl rfl (((HR.out.drewN _).put 0 _).put 1 _) rfl ⟨rfl, ((below_drewN HL.out _).setCell (by dsimp only; omega) _).setCell (by dsimp only; omega) _⟩
end Go.Proofs.Ytkibpialacnlhaa
