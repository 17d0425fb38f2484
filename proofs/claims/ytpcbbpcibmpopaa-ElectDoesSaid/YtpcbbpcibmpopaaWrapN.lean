/- Package wrap's Next and Newer, and the document's, for all numbers. -/
import Derived.Test.YtpcbbpcibmpopaaProg
import Derived.Test.YtpcbbpcibmpopaaLawKit
import Derived.Outline
namespace Go.Proofs.Ytpcbbpcibmpopaa
open Go.RowKit

/-- The number behind one. -/
def nextV (a : Int) : Int := (a + 1) % 65536
theorem next_any (a : Int) (w : World) :
    Calls Try.prog 25 #[.int .u16 a] w fun e w' => e = .returned (.int .u16 (nextV a)) ∧ w = w' := by
  go_enter Try.func25, Try.ntmps25
  go_wp2
  go_ret
  exact ⟨ret_int (by rw [wrap_u16]; rfl), rfl⟩
theorem rnext_any (a : Int) (w : World) (ha : F16 a) :
    Calls Try.prog 22 #[.int .u16 a] w fun e w' => e = .returned (.int .u16 (nextV a)) ∧ w = w' := by
  obtain ⟨a1, a2⟩ := ha
  go_enter Try.func22, Try.ntmps22
  go_wp2
  go_ret
  exact ⟨ret_int (by unfold nextV; first | rfl | (simp only [wrap_u16]; omega)), rfl⟩
/-- Is a number newer? -/
def newB (a b : Int) : Bool := decide (1 ≤ (a - b) % 65536 ∧ (a - b) % 65536 ≤ 32767)
theorem newB_yes {a b : Int} (h : newB a b = true) : 1 ≤ (a - b) % 65536 ∧ (a - b) % 65536 ≤ 32767 := by simpa [newB] using h
theorem newB_no {a b : Int} (h : newB a b = false) : ¬ (1 ≤ (a - b) % 65536 ∧ (a - b) % 65536 ≤ 32767) := by
  unfold newB at h; exact of_decide_eq_false h
theorem newer_any (a b : Int) (w : World) :
    Calls Try.prog 29 #[.int .u16 a, .int .u16 b] w fun e w' => e = .returned (.bool (newB a b)) ∧ w = w' := by
  cases h : newB a b with
  | true =>
    have h1 := newB_yes h
    rw [← wrap_u16] at h1
    obtain ⟨h2, h3⟩ := h1
    have h4 : decide (IntKind.u16.wrap (a - b) < 32768) = true := decide_eq_true (by omega)
    clear h
    go_enter Try.func29, Try.ntmps29
    go_wp2
    go_ret
    exact ⟨rfl, rfl⟩
  | false =>
    have h1 := newB_no h
    rw [← wrap_u16] at h1
    by_cases h2 : 0 < IntKind.u16.wrap (a - b)
    · have h3 : decide (IntKind.u16.wrap (a - b) < 32768) = false := decide_eq_false (by omega)
      clear h h1
      go_enter Try.func29, Try.ntmps29
      go_wp2
      go_ret
      exact ⟨rfl, rfl⟩
    · clear h h1
      go_enter Try.func29, Try.ntmps29
      go_wp2
      go_ret
      exact ⟨rfl, rfl⟩
theorem rnewer_any (a b : Int) (w : World) (ha : F16 a) (hb : F16 b) :
    Calls Try.prog 28 #[.int .u16 a, .int .u16 b] w fun e w' => e = .returned (.bool (newB a b)) ∧ w = w' := by
  obtain ⟨a1, a2⟩ := ha
  obtain ⟨b1, b2⟩ := hb
  have e : (a + 65536 - b) % 65536 = (a - b) % 65536 := by omega
  cases h : newB a b with
  | true =>
    have h1 := newB_yes h
    rw [← e] at h1
    obtain ⟨h2, h3⟩ := h1
    have h4 : decide ((a + 65536 - b) % 65536 ≤ 32767) = true := decide_eq_true h3
    clear h e
    go_enter Try.func28, Try.ntmps28
    go_wp2
    go_ret
    exact ⟨rfl, rfl⟩
  | false =>
    have h1 := newB_no h
    rw [← e] at h1
    by_cases h2 : 1 ≤ (a + 65536 - b) % 65536
    · have h3 : decide ((a + 65536 - b) % 65536 ≤ 32767) = false := decide_eq_false (by omega)
      clear h h1 e
      go_enter Try.func28, Try.ntmps28
      go_wp2
      go_ret
      exact ⟨rfl, rfl⟩
    · clear h h1 e
      go_enter Try.func28, Try.ntmps28
      go_wp2
      go_ret
      exact ⟨rfl, rfl⟩
end Go.Proofs.Ytpcbbpcibmpopaa
