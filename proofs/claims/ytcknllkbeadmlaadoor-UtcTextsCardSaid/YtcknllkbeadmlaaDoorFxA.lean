/- Package fix, for the seats of later layers: what Add, Sub, Sat, Floor and Clamp answer, for all numbers of 64 bits. -/
import Derived.Test.YtcknllkbeadmlaaDoorLawKit
import Derived.Test.YtcknllkbeadmlaaDoorProg
import Derived.Outline
import Derived.PlainAid
import Derived.OwnWalk
import Derived.Deep.QuietTactic
import Derived.BigQuiet
namespace Go.Proofs.YtcknllkbeadmlaaDoor
open Go.RowKit

theorem floor_no (a b : Int) (w : World) (h : b < 1) :
    Calls Tryd.prog 27 #[.int .i64 a, .int .i64 b] w fun e w' => e = .returned (.tuple #[.int .i64 0, .int .i64 0, .bool false]) ∧ w = w' := by
  go_enter Tryd.func27, Tryd.ntmps27
  go_wp2
  go_ret3
  exact ⟨rfl, rfl⟩
theorem ret_iib {k l : IntKind} {a b c d : Int} {o : Bool} (h : a = b) (g : c = d) : Ending.returned (.tuple #[.int k a, .int l c, .bool o]) = .returned (.tuple #[.int k b, .int l d, .bool o]) := by rw [h, g]
theorem tdm_neg (a b : Int) (h : 1 ≤ b) (c : a.tmod b < 0) : a.tdiv b - 1 = a / b ∧ a.tmod b + b = a % b := by
  have e1 := Int.tdiv_eq_ediv (a := a) (b := b)
  have e2 := Int.tmod_eq_emod (a := a) (b := b)
  have hs : b.sign = 1 := Int.sign_eq_one_of_pos (by omega)
  have hm := Int.emod_nonneg a (show b ≠ 0 by omega)
  rw [hs] at e1
  split at e1 <;> split at e2 <;> first | contradiction | omega
theorem tdm_pos (a b : Int) (h : 1 ≤ b) (c : ¬ a.tmod b < 0) : a.tdiv b = a / b ∧ a.tmod b = a % b := by
  have e1 := Int.tdiv_eq_ediv (a := a) (b := b)
  have e2 := Int.tmod_eq_emod (a := a) (b := b)
  have hs : b.sign = 1 := Int.sign_eq_one_of_pos (by omega)
  have hm := Int.emod_lt_of_pos a (show 0 < b by omega)
  rw [hs] at e1
  split at e1 <;> split at e2 <;> first | contradiction | omega
theorem ediv_bd (a b : Int) (h : 1 ≤ b) : (0 ≤ a → 0 ≤ a / b ∧ a / b ≤ a) ∧ (a < 0 → a ≤ a / b ∧ a / b < 0) := by
  constructor
  · intro c; exact ⟨Int.ediv_nonneg c (by omega), Int.ediv_le_self _ c⟩
  · intro c
    refine ⟨?_, Int.ediv_neg_of_neg_of_pos c (by omega)⟩
    rw [Int.le_ediv_iff_mul_le (by omega)]
    have := Int.mul_le_mul_of_nonpos_left (a := a) (by omega) h
    simpa using this
theorem floor_yes (a b : Int) (w : World) (ha : Fits a) (h1 : 1 ≤ b) (h2 : b ≤ 9223372036854775807) :
    Calls Tryd.prog 27 #[.int .i64 a, .int .i64 b] w fun e w' => e = .returned (.tuple #[.int .i64 (a / b), .int .i64 (a % b), .bool true]) ∧ ∃ n, w' = w.drewN n := by
  obtain ⟨ha1, ha2⟩ := ha
  have g0 := ediv_bd a b h1
  have m0 := Int.emod_nonneg a (show b ≠ 0 by omega)
  have m1 := Int.emod_lt_of_pos a (show 0 < b by omega)
  by_cases c : a.tmod b < 0
  · have H : Hid (a.tdiv b - 1 = a / b ∧ a.tmod b + b = a % b) := Lib.hid (tdm_neg a b h1 c)
    have g1 : -9223372036854775808 ≤ a.tdiv b - 1 ∧ a.tdiv b - 1 ≤ 9223372036854775807 := by have := H.out; omega
    have g2 : -9223372036854775808 ≤ a.tmod b + b ∧ a.tmod b + b ≤ 9223372036854775807 := by have := H.out; omega
    obtain ⟨g3, g4⟩ := g1
    obtain ⟨g5, g6⟩ := g2
    clear g0 m0 m1
    go_enter Tryd.func27, Tryd.ntmps27
    go_wp2
    go_quiet (fail)
    go_wp2
    go_ret3
    exact ⟨ret_iib H.out.1 H.out.2, ⟨_, rfl⟩⟩
  · have H : Hid (a.tdiv b = a / b ∧ a.tmod b = a % b) := Lib.hid (tdm_pos a b h1 c)
    clear g0 m0 m1
    go_enter Tryd.func27, Tryd.ntmps27
    go_wp2
    go_quiet (fail)
    go_wp2
    go_ret3
    exact ⟨ret_iib H.out.1 H.out.2, ⟨_, rfl⟩⟩
end Go.Proofs.YtcknllkbeadmlaaDoor
