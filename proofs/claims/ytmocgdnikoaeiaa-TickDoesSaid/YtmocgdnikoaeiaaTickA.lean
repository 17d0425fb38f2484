/- Package tick: what a clock's calls answer, and what becomes of it. -/
import Derived.Test.YtmocgdnikoaeiaaWrapE
import Derived.Test.YtmocgdnikoaeiaaPtr
import Derived.Deep.QuietTactic
import Derived.BigQuiet
import Derived.Outline
namespace Go.Proofs.Ytmocgdnikoaeiaa
open Go.RowKit

/-- A clock at block g: its drift, and its time. -/
def Clk (w : World) (g : Nat) (d n : Int) : Prop := Holds w g 45 #[.int .i64 d, .int .i64 n]
/-- May a step have so many ticks? -/
def fitsB (d t : Int) : Bool := decide (1000 - d ≤ t) && decide (t ≤ 1000 + d)
theorem fitsB_yes {d t : Int} (h : fitsB d t = true) : 1000 - d ≤ t ∧ t ≤ 1000 + d := by simpa [fitsB] using h
theorem fitsB_no {d t : Int} (h : fitsB d t = false) : t < 1000 - d ∨ 1000 + d < t := by
  simp [fitsB] at h
  omega
theorem fitsB_mk {d t : Int} (h1 : 1000 - d ≤ t) (h2 : t ≤ 1000 + d) : fitsB d t = true := by simp [fitsB, h1, h2]
theorem fitsB_low {d t : Int} (h1 : t < 1000 - d) : fitsB d t = false := by simp [fitsB]; omega
theorem fitsB_high {d t : Int} (h1 : 1000 + d < t) : fitsB d t = false := by simp [fitsB]; omega

theorem new_yes (d : Int) (w : World) (h0 : 0 ≤ d) (h1 : d ≤ 10) :
    Calls Try.prog 7 #[.int .i64 d] w fun e w' => e = .returned (.tuple #[.pointer (some ⟨w.heap.size, 0, none⟩), .int .i64 0]) ∧ Clk w' w.heap.size d 0 ∧ Below w.heap.size w w' := by
  go_enter Try.func7, Try.ntmps7
  go_wp2
  go_ret2
  exact ⟨rfl, Holds.new _ _ _, below_alloc _ _⟩
theorem new_no (d : Int) (w : World) (h : d < 0 ∨ 10 < d) :
    Calls Try.prog 7 #[.int .i64 d] w fun e w' => e = .returned (.tuple #[.pointer none, .int .i64 1]) ∧ w = w' := by
  rcases h with h | h
  · go_enter Try.func7, Try.ntmps7
    go_wp2
    go_ret2
    exact ⟨rfl, rfl⟩
  · have h2 : decide (d < 0) = false := decide_eq_false (by omega)
    go_enter Try.func7, Try.ntmps7
    go_wp2
    go_ret2
    exact ⟨rfl, rfl⟩
theorem boot_any (g : Nat) (d n r : Int) (w : World) (h : Clk w g d n) (hr : F32 r) :
    Calls Try.prog 8 #[.pointer (some ⟨g, 0, none⟩), .int .u32 r] w fun e w' => e = .returned (.tuple #[]) ∧ Clk w' g d r ∧ w.grownBy w' (some g) := by
  have c1 := Holds.cell h 1
  have f1 := Holds.soft h 1
  obtain ⟨r1, r2⟩ := hr
  have H := Lib.hid h
  clear h
  go_enter Try.func8, Try.ntmps8
  go_wp2
  go_end0
  exact ⟨rfl, H.out.put 1 _, grown_set _ _ _ _⟩
theorem boot_nil (r : Int) (w : World) :
    Calls Try.prog 8 #[.pointer none, .int .u32 r] w fun e w' => e = .returned (.tuple #[]) ∧ w = w' := by
  go_enter Try.func8, Try.ntmps8
  go_wp2
  refine bodyPost_ret (results_none rfl _ _ _) rfl ?_
  exact ⟨rfl, rfl⟩
theorem fits_any (g : Nat) (d n t : Int) (w : World) (h : Clk w g d n) (h0 : 0 ≤ d) (h1 : d ≤ 10) :
    Calls Try.prog 10 #[.pointer (some ⟨g, 0, none⟩), .int .i64 t] w fun e w' => e = .returned (.bool (fitsB d t)) ∧ w = w' := by
  have c1 := Holds.cell h 0
  clear h
  by_cases h2 : 1000 - d ≤ t
  · by_cases h3 : t ≤ 1000 + d
    · rw [fitsB_mk h2 h3]
      go_enter Try.func10, Try.ntmps10
      go_wp2
      go_ret
      exact ⟨rfl, rfl⟩
    · rw [fitsB_high (by omega)]
      have h4 : decide (t ≤ 1000 + d) = false := decide_eq_false h3
      go_enter Try.func10, Try.ntmps10
      go_wp2
      go_ret
      exact ⟨rfl, rfl⟩
  · rw [fitsB_low (by omega)]
    have h4 : decide (1000 - d ≤ t) = false := decide_eq_false h2
    go_enter Try.func10, Try.ntmps10
    go_wp2
    go_ret
    exact ⟨rfl, rfl⟩
theorem fits_nil (t : Int) (w : World) :
    Calls Try.prog 10 #[.pointer none, .int .i64 t] w fun e w' => e = .returned (.bool false) ∧ w = w' := by
  go_enter Try.func10, Try.ntmps10
  go_wp2
  go_ret
  exact ⟨rfl, rfl⟩
theorem now_any (g : Nat) (d n : Int) (w : World) (h : Clk w g d n) :
    Calls Try.prog 11 #[.pointer (some ⟨g, 0, none⟩)] w fun e w' => e = .returned (.int .i64 n) ∧ w = w' := by
  have c1 := Holds.cell h 1
  clear h
  go_enter Try.func11, Try.ntmps11
  go_wp2
  go_ret
  exact ⟨rfl, rfl⟩
theorem now_nil (w : World) :
    Calls Try.prog 11 #[.pointer none] w fun e w' => e = .returned (.int .i64 0) ∧ w = w' := by
  go_enter Try.func11, Try.ntmps11
  go_wp2
  go_ret
  exact ⟨rfl, rfl⟩
theorem counter_any (g : Nat) (d n : Int) (w : World) (h : Clk w g d n) :
    Calls Try.prog 12 #[.pointer (some ⟨g, 0, none⟩)] w fun e w' => e = .returned (.int .u32 (n % 4294967296)) ∧ w = w' := by
  go_enter Try.func12, Try.ntmps12
  go_wp2_with (go_at_call 11; refine (now_any g d n _ h).mono ?_; rintro e w' ⟨rfl, rfl⟩)
  go_ret
  exact ⟨ret_int (by first | rfl | rw [wrap_u32]), rfl⟩
theorem counter_nil (w : World) :
    Calls Try.prog 12 #[.pointer none] w fun e w' => e = .returned (.int .u32 0) ∧ w = w' := by
  go_enter Try.func12, Try.ntmps12
  go_wp2_with (go_at_call 11; refine (now_nil _).mono ?_; rintro e w' ⟨rfl, rfl⟩)
  go_ret
  exact ⟨rfl, rfl⟩
end Go.Proofs.Ytmocgdnikoaeiaa
