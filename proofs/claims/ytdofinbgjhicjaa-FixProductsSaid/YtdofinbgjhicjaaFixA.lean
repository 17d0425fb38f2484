/- What the calls Add, Sub, Sat, Size, Floor and Clamp of package fix answer, for all numbers of 64 bits; without conditions beyond that range. -/
import Derived.Test.YtdofinbgjhicjaaProg
import Derived.WalkKit
import Derived.IntWalk
import Derived.Outline
import Derived.Lib.Hide
namespace Go.Proofs.Ytdofinbgjhicjaa
open Go.RowKit

def Fits (n : Int) : Prop := -9223372036854775808 ≤ n ∧ n ≤ 9223372036854775807
theorem fits_wf {n : Int} (h : (Lit.int .i64 n).wf = true) : Fits n := by
  simpa [Lit.wf, IntKind.min, IntKind.max, IntKind.signed, IntKind.bits, Fits] using h

theorem ret_int {k : IntKind} {a b : Int} (h : a = b) : Ending.returned (.int k a) = .returned (.int k b) := by rw [h]
def clampV (x l h : Int) : Int := if x < l ∨ h < l then l else if h < x then h else x
theorem clamp_any (x l h : Int) (w : World) :
    Calls Try.prog 21 #[.int .i64 x, .int .i64 l, .int .i64 h] w fun e w' => e = .returned (.int .i64 (clampV x l h)) ∧ w = w' := by
  by_cases c1 : x < l
  · go_enter Try.func21, Try.ntmps21
    go_wp2
    go_ret
    exact ⟨ret_int (by unfold clampV; rw [if_pos (Or.inl c1)]), rfl⟩
  · by_cases c2 : h < l
    · go_enter Try.func21, Try.ntmps21
      go_wp2
      go_ret
      exact ⟨ret_int (by unfold clampV; rw [if_pos (Or.inr c2)]), rfl⟩
    · by_cases c3 : h < x
      · go_enter Try.func21, Try.ntmps21
        go_wp2
        go_ret
        exact ⟨ret_int (by unfold clampV; rw [if_neg (by omega)]; first | rw [if_pos (by omega)] | rw [if_neg (by omega)]), rfl⟩
      · go_enter Try.func21, Try.ntmps21
        go_wp2
        go_ret
        exact ⟨ret_int (by unfold clampV; rw [if_neg (by omega)]; first | rw [if_pos (by omega)] | rw [if_neg (by omega)]), rfl⟩

theorem add_yes (a b : Int) (w : World) (h : Fits (a + b)) :
    Calls Try.prog 11 #[.int .i64 a, .int .i64 b] w fun e w' => e = .returned (.tuple #[.int .i64 (a + b), .bool true]) ∧ w = w' := by
  obtain ⟨h1, h2⟩ := h
  by_cases c1 : a < 0 <;> by_cases c2 : b < 0 <;> by_cases c3 : a + b < 0
  all_goals first | (exfalso; omega) | skip
  all_goals
    go_enter Try.func11, Try.ntmps11
    go_wp2
    go_ret2
    exact ⟨rfl, rfl⟩

theorem add_no (a b : Int) (w : World) (ha : Fits a) (hb : Fits b) (h : ¬ Fits (a + b)) :
    Calls Try.prog 11 #[.int .i64 a, .int .i64 b] w fun e w' => e = .returned (.tuple #[.int .i64 0, .bool false]) ∧ w = w' := by
  unfold Fits at ha hb h
  have hc : (a < 0 ∧ b < 0 ∧ 0 ≤ wrap64 (a + b)) ∨ (0 ≤ a ∧ 0 ≤ b ∧ wrap64 (a + b) < 0) := by unfold wrap64; omega
  clear ha hb h
  rcases hc with ⟨c1, c2, c3⟩ | ⟨c1, c2, c3⟩
  · have d3 : decide (wrap64 (a + b) < 0) = false := decide_eq_false (by omega)
    go_enter Try.func11, Try.ntmps11
    go_wp2
    go_ret2
    exact ⟨rfl, rfl⟩
  · have d1 : decide (a < 0) = false := decide_eq_false (by omega)
    have d2 : decide (b < 0) = false := decide_eq_false (by omega)
    go_enter Try.func11, Try.ntmps11
    go_wp2
    go_ret2
    exact ⟨rfl, rfl⟩

theorem sub_yes (a b : Int) (w : World) (h : Fits (a - b)) :
    Calls Try.prog 14 #[.int .i64 a, .int .i64 b] w fun e w' => e = .returned (.tuple #[.int .i64 (a - b), .bool true]) ∧ w = w' := by
  obtain ⟨h1, h2⟩ := h
  by_cases c1 : a < 0 <;> by_cases c2 : b < 0 <;> by_cases c3 : a - b < 0
  all_goals first | (exfalso; omega) | skip
  all_goals
    go_enter Try.func14, Try.ntmps14
    go_wp2
    go_ret2
    exact ⟨rfl, rfl⟩

theorem sub_no (a b : Int) (w : World) (ha : Fits a) (hb : Fits b) (h : ¬ Fits (a - b)) :
    Calls Try.prog 14 #[.int .i64 a, .int .i64 b] w fun e w' => e = .returned (.tuple #[.int .i64 0, .bool false]) ∧ w = w' := by
  unfold Fits at ha hb h
  have hc : (a < 0 ∧ 0 ≤ b ∧ 0 ≤ wrap64 (a - b)) ∨ (0 ≤ a ∧ b < 0 ∧ wrap64 (a - b) < 0) := by unfold wrap64; omega
  clear ha hb h
  rcases hc with ⟨c1, c2, c3⟩ | ⟨c1, c2, c3⟩
  · have d3 : decide (wrap64 (a - b) < 0) = false := decide_eq_false (by omega)
    have d2 : decide (b < 0) = false := decide_eq_false (by omega)
    go_enter Try.func14, Try.ntmps14
    go_wp2
    go_ret2
    exact ⟨rfl, rfl⟩
  · have d1 : decide (a < 0) = false := decide_eq_false (by omega)
    go_enter Try.func14, Try.ntmps14
    go_wp2
    go_ret2
    exact ⟨rfl, rfl⟩

def satV (a b : Int) : Int := if a + b < -9223372036854775808 then -9223372036854775808 else if 9223372036854775807 < a + b then 9223372036854775807 else a + b
theorem sat_any (a b : Int) (w : World) (ha : Fits a) (hb : Fits b) :
    Calls Try.prog 13 #[.int .i64 a, .int .i64 b] w fun e w' => e = .returned (.int .i64 (satV a b)) ∧ w = w' := by
  by_cases h : Fits (a + b)
  · have hv : Hid (satV a b = a + b) := by unfold Fits at h; have : satV a b = a + b := by unfold satV; (repeat' split) <;> omega
                                           exact Lib.hid this
    go_enter Try.func13, Try.ntmps13
    go_wp2_with (go_at_call 11; refine (add_yes _ _ _ h).mono ?_; rintro e w' ⟨rfl, rfl⟩)
    go_ret
    exact ⟨ret_int hv.out.symm, rfl⟩
  · by_cases c : 0 < a
    · have hv : Hid (satV a b = 9223372036854775807) := by unfold Fits at h ha hb; have : satV a b = 9223372036854775807 := by unfold satV; (repeat' split) <;> omega
                                                           exact Lib.hid this
      go_enter Try.func13, Try.ntmps13
      go_wp2_with (go_at_call 11; refine (add_no _ _ _ ha hb h).mono ?_; rintro e w' ⟨rfl, rfl⟩)
      go_ret
      exact ⟨ret_int hv.out.symm, rfl⟩
    · have hv : Hid (satV a b = -9223372036854775808) := by unfold Fits at h ha hb; have : satV a b = -9223372036854775808 := by unfold satV; (repeat' split) <;> omega
                                                            exact Lib.hid this
      go_enter Try.func13, Try.ntmps13
      go_wp2_with (go_at_call 11; refine (add_no _ _ _ ha hb h).mono ?_; rintro e w' ⟨rfl, rfl⟩)
      go_ret
      exact ⟨ret_int hv.out.symm, rfl⟩
end Go.Proofs.Ytdofinbgjhicjaa
