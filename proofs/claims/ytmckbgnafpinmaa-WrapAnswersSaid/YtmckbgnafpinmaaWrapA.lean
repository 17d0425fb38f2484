/- What the calls of package wrap answer, and what the document's own reckoning of them answers, for all numbers of their kinds. -/
import Derived.Test.YtmckbgnafpinmaaProg
import Derived.Test.YtmckbgnafpinmaaLawKit
import Derived.Outline
namespace Go.Proofs.Ytmckbgnafpinmaa
open Go.RowKit

/-- How far a counter is ahead of another one. -/
def diffV (a b : Int) : Int := (a - b + 2147483648) % 4294967296 - 2147483648
theorem diff_eq (a b : Int) : wrap64 (wrap32 ((a - b) % 4294967296)) = diffV a b := by unfold wrap64 wrap32 diffV; omega
theorem diff_any (a b : Int) (w : World) :
    Calls Try.prog 10 #[.int .u32 a, .int .u32 b] w fun e w' => e = .returned (.int .i64 (diffV a b)) ∧ w = w' := by
  go_enter Try.func10, Try.ntmps10
  go_wp2
  go_ret
  exact ⟨ret_int (diff_eq a b), rfl⟩
theorem rdiff_any (a b : Int) (w : World) (ha : F32 a) (hb : F32 b) :
    Calls Try.prog 11 #[.int .u32 a, .int .u32 b] w fun e w' => e = .returned (.int .i64 (diffV a b)) ∧ w = w' := by
  obtain ⟨a1, a2⟩ := ha
  obtain ⟨b1, b2⟩ := hb
  by_cases c1 : 2147483648 ≤ a - b
  · go_enter Try.func11, Try.ntmps11
    go_wp2
    go_ret
    exact ⟨ret_int (by unfold diffV; omega), rfl⟩
  · by_cases c2 : a - b < -2147483648
    · go_enter Try.func11, Try.ntmps11
      go_wp2
      go_ret
      exact ⟨ret_int (by unfold diffV; omega), rfl⟩
    · go_enter Try.func11, Try.ntmps11
      go_wp2
      go_ret
      exact ⟨ret_int (by unfold diffV; omega), rfl⟩

/-- The number behind one. -/
def nextV (a : Int) : Int := (a + 1) % 65536
theorem next_any (a : Int) (w : World) :
    Calls Try.prog 14 #[.int .u16 a] w fun e w' => e = .returned (.int .u16 (nextV a)) ∧ w = w' := by
  go_enter Try.func14, Try.ntmps14
  go_wp2
  go_ret
  exact ⟨ret_int (by rw [wrap_u16]; rfl), rfl⟩
theorem rnext_any (a : Int) (w : World) (ha : F16 a) :
    Calls Try.prog 15 #[.int .u16 a] w fun e w' => e = .returned (.int .u16 (nextV a)) ∧ w = w' := by
  obtain ⟨a1, a2⟩ := ha
  go_enter Try.func15, Try.ntmps15
  go_wp2
  go_ret
  exact ⟨ret_int (by unfold nextV; first | rfl | (simp only [wrap_u16]; omega)), rfl⟩

/-- Is a number newer? -/
def newB (a b : Int) : Bool := decide (1 ≤ (a - b) % 65536 ∧ (a - b) % 65536 ≤ 32767)
theorem newB_yes {a b : Int} (h : newB a b = true) : 1 ≤ (a - b) % 65536 ∧ (a - b) % 65536 ≤ 32767 := by simpa [newB] using h
theorem newB_no {a b : Int} (h : newB a b = false) : ¬ (1 ≤ (a - b) % 65536 ∧ (a - b) % 65536 ≤ 32767) := by
  unfold newB at h; exact of_decide_eq_false h
theorem newer_any (a b : Int) (w : World) :
    Calls Try.prog 12 #[.int .u16 a, .int .u16 b] w fun e w' => e = .returned (.bool (newB a b)) ∧ w = w' := by
  cases h : newB a b with
  | true =>
    have h1 := newB_yes h
    rw [← wrap_u16] at h1
    obtain ⟨h2, h3⟩ := h1
    have h4 : decide (IntKind.u16.wrap (a - b) < 32768) = true := decide_eq_true (by omega)
    clear h
    go_enter Try.func12, Try.ntmps12
    go_wp2
    go_ret
    exact ⟨rfl, rfl⟩
  | false =>
    have h1 := newB_no h
    rw [← wrap_u16] at h1
    by_cases h2 : 0 < IntKind.u16.wrap (a - b)
    · have h3 : decide (IntKind.u16.wrap (a - b) < 32768) = false := decide_eq_false (by omega)
      clear h h1
      go_enter Try.func12, Try.ntmps12
      go_wp2
      go_ret
      exact ⟨rfl, rfl⟩
    · clear h h1
      go_enter Try.func12, Try.ntmps12
      go_wp2
      go_ret
      exact ⟨rfl, rfl⟩
theorem rnewer_any (a b : Int) (w : World) (ha : F16 a) (hb : F16 b) :
    Calls Try.prog 13 #[.int .u16 a, .int .u16 b] w fun e w' => e = .returned (.bool (newB a b)) ∧ w = w' := by
  obtain ⟨a1, a2⟩ := ha
  obtain ⟨b1, b2⟩ := hb
  have e : (a + 65536 - b) % 65536 = (a - b) % 65536 := by omega
  cases h : newB a b with
  | true =>
    have h1 := newB_yes h
    rw [← e] at h1
    obtain ⟨h2, h3⟩ := h1
    have h4 : decide ((a + 65536 - b) % 65536 ≤ 32767) = true := decide_eq_true h3
    clear h e
    go_enter Try.func13, Try.ntmps13
    go_wp2
    go_ret
    exact ⟨rfl, rfl⟩
  | false =>
    have h1 := newB_no h
    rw [← e] at h1
    by_cases h2 : 1 ≤ (a + 65536 - b) % 65536
    · have h3 : decide ((a + 65536 - b) % 65536 ≤ 32767) = false := decide_eq_false (by omega)
      clear h h1 e
      go_enter Try.func13, Try.ntmps13
      go_wp2
      go_ret
      exact ⟨rfl, rfl⟩
    · clear h h1 e
      go_enter Try.func13, Try.ntmps13
      go_wp2
      go_ret
      exact ⟨rfl, rfl⟩

/-- The least time from one on that shows a counter. -/
def extV (a r : Int) : Int := a + (r - a) % 4294967296
theorem ext_bad (a r : Int) (w : World) (h : a < 0 ∨ 1125899906842624 < a) :
    Calls Try.prog 16 #[.int .i64 a, .int .u32 r] w fun e w' => e = .returned (.tuple #[.int .i64 0, .bool false]) ∧ w = w' := by
  by_cases c : a < 0
  · go_enter Try.func16, Try.ntmps16
    go_wp2
    go_ret2
    exact ⟨rfl, rfl⟩
  · have h1 : 1125899906842624 < a := by omega
    have h2 : decide (a < 0) = false := decide_eq_false (by omega)
    clear h
    go_enter Try.func16, Try.ntmps16
    go_wp2
    go_ret2
    exact ⟨rfl, rfl⟩
theorem ext_no (a r : Int) (w : World) (h0 : 0 ≤ a) (h1 : a ≤ 1125899906842624) (h : 1125899906842624 < extV a r) :
    Calls Try.prog 16 #[.int .i64 a, .int .u32 r] w fun e w' => e = .returned (.tuple #[.int .i64 0, .bool false]) ∧ w = w' := by
  have h2 : decide (a < 0) = false := decide_eq_false (by omega)
  have h3 : decide (1125899906842624 < a) = false := decide_eq_false (by omega)
  have h4 : 1125899906842624 < a + (r - a) % 4294967296 := by unfold extV at h; exact h
  clear h
  go_enter Try.func16, Try.ntmps16
  go_wp2
  go_ret2
  exact ⟨rfl, rfl⟩
theorem ext_yes (a r : Int) (w : World) (h0 : 0 ≤ a) (h1 : a ≤ 1125899906842624) (h : extV a r ≤ 1125899906842624) :
    Calls Try.prog 16 #[.int .i64 a, .int .u32 r] w fun e w' => e = .returned (.tuple #[.int .i64 (extV a r), .bool true]) ∧ w = w' := by
  have h2 : decide (a < 0) = false := decide_eq_false (by omega)
  have h3 : decide (1125899906842624 < a) = false := decide_eq_false (by omega)
  have h4 : a + (r - a) % 4294967296 ≤ 1125899906842624 := by unfold extV at h; exact h
  clear h
  go_enter Try.func16, Try.ntmps16
  go_wp2
  go_ret2
  exact ⟨ret_ib rfl rfl, rfl⟩

theorem one_no (n : Int) (w : World) (h : 1125899906842624 < n) :
    Calls Try.prog 18 #[.int .i64 n] w fun e w' => e = .returned (.int .i64 0) ∧ w = w' := by
  go_enter Try.func18, Try.ntmps18
  go_wp2
  go_ret
  exact ⟨rfl, rfl⟩
theorem one_yes (n : Int) (w : World) (h : n ≤ 1125899906842624) :
    Calls Try.prog 18 #[.int .i64 n] w fun e w' => e = .returned (.int .i64 1) ∧ w = w' := by
  go_enter Try.func18, Try.ntmps18
  go_wp2
  go_ret
  exact ⟨rfl, rfl⟩
theorem rext_bad (a r : Int) (w : World) (h : a < 0 ∨ 1125899906842624 < a) :
    Calls Try.prog 17 #[.int .i64 a, .int .u32 r] w fun e w' => e = .returned (.tuple #[.int .i64 0, .bool false]) ∧ w = w' := by
  by_cases c : a < 0
  · go_enter Try.func17, Try.ntmps17
    go_wp2
    go_ret2
    exact ⟨rfl, rfl⟩
  · have h1 : 1125899906842624 < a := by omega
    have h2 : decide (a < 0) = false := decide_eq_false (by omega)
    clear h
    go_enter Try.func17, Try.ntmps17
    go_wp2
    go_ret2
    exact ⟨rfl, rfl⟩
theorem ext_case (a r : Int) (hr : F32 r) : (a / 4294967296 * 4294967296 + r < a ∧ a / 4294967296 * 4294967296 + r + 4294967296 = extV a r) ∨ (¬ a / 4294967296 * 4294967296 + r < a ∧ a / 4294967296 * 4294967296 + r = extV a r) := by
  obtain ⟨h1, h2⟩ := hr
  unfold extV; omega
theorem rext_any (a r : Int) (w : World) (hr : F32 r) (h0 : 0 ≤ a) (h1 : a ≤ 1125899906842624) (v : Int) (o : Bool) (hv : (extV a r ≤ 1125899906842624 ∧ v = extV a r ∧ o = true) ∨ (1125899906842624 < extV a r ∧ v = 0 ∧ o = false)) :
    Calls Try.prog 17 #[.int .i64 a, .int .u32 r] w fun e w' => e = .returned (.tuple #[.int .i64 v, .bool o]) ∧ w = w' := by
  have h2 : decide (a < 0) = false := decide_eq_false (by omega)
  have h3 : decide (1125899906842624 < a) = false := decide_eq_false (by omega)
  have hc := ext_case a r hr
  obtain ⟨r1, r2⟩ := hr
  have k1 : 0 ≤ a / 4294967296 := by omega
  have k2 : a / 4294967296 ≤ 262144 := by omega
  rcases hc with ⟨c1, c2⟩ | ⟨c1, c2⟩
  · rw [← c2] at hv
    clear c2
    rcases hv with ⟨d1, rfl, rfl⟩ | ⟨d1, rfl, rfl⟩
    · go_enter Try.func17, Try.ntmps17
      go_wp2
      go_ret2
      exact ⟨rfl, rfl⟩
    · have d2 : decide (a / 4294967296 * 4294967296 + r + 4294967296 ≤ 1125899906842624) = false := decide_eq_false (by omega)
      go_enter Try.func17, Try.ntmps17
      go_wp2
      go_ret2
      exact ⟨rfl, rfl⟩
  · rw [← c2] at hv
    clear c2
    rcases hv with ⟨d1, rfl, rfl⟩ | ⟨d1, rfl, rfl⟩
    · go_enter Try.func17, Try.ntmps17
      go_wp2
      go_ret2
      exact ⟨rfl, rfl⟩
    · have d2 : decide (a / 4294967296 * 4294967296 + r ≤ 1125899906842624) = false := decide_eq_false (by omega)
      go_enter Try.func17, Try.ntmps17
      go_wp2
      go_ret2
      exact ⟨rfl, rfl⟩
theorem alive_yes (w : World) : Calls Try.prog 9 #[] w fun e w' => e = .returned (.bool true) ∧ w = w' := by
  have e1 : diffV 1 4294967295 = 2 := by decide
  have e2 : newB 0 65535 = true := by decide
  have e3 : extV 4294967295 5 = 4294967301 := by decide
  go_enter Try.func9, Try.ntmps9
  go_wp2_with (first
    | (go_at_call 16; refine (ext_yes _ _ _ (by omega) (by omega) (by decide)).mono ?_; rintro e w' ⟨rfl, rfl⟩)
    | (go_at_call 10; refine (diff_any _ _ _).mono ?_; rintro e w' ⟨rfl, rfl⟩)
    | (go_at_call 12; refine (newer_any _ _ _).mono ?_; rintro e w' ⟨rfl, rfl⟩))
  go_ret
  exact ⟨rfl, rfl⟩
end Go.Proofs.Ytmckbgnafpinmaa
