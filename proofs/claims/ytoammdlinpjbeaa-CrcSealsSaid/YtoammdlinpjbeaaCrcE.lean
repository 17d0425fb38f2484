/- The first call of each law: two examples. -/
import Derived.Test.YtoammdlinpjbeaaCrcD
import Derived.Lib.SlBytesConst
namespace Go.Proofs.Ytoammdlinpjbeaa
open Go.RowKit

theorem opens_seven : opens (sealed [7]) = true := by decide +kernel
theorem sum_nine : ((sumOf [49, 50, 51, 52, 53, 54, 55, 56, 57]).toNat : Int) = 10673 := by decide +kernel
theorem wf_nine : ∀ n ∈ [49, 50, 51, 52, 53, 54, 55, 56, 57], (Lit.int .u8 n).wf = true := by decide +kernel
theorem wf_seven : ∀ n ∈ [(7 : Int)], (Lit.int .u8 n).wf = true := by decide +kernel
theorem seven_back (w : World) : Calls Try.prog 13 #[.slice (some ⟨w.heap.size, 0, none⟩) 1 1] (w.alloc (.cells #[.int .u8 7] 5)) fun e w' =>
    ∃ A c, e = .returned (.slice A 3 c) ∧ Bytes w' A 3 c (sealed [7]) ∧ Below w.heap.size w w' :=
  (seal_any _ 1 1 [7] _ (IntRow.laid w 5 _ [7] 1 rfl (by simp [maxLen]) wf_seven) (by omega)).mono fun e w' ⟨A, c, he, ho, hb⟩ =>
    ⟨A, c, he, IntRow.of_own ho (sealed_wf wf_seven), (below_alloc w _).trans (hb.mono (by simp))⟩
theorem open_back (w : World) (A : Option Addr) (c : Nat) (hr : Bytes w A 3 c (sealed [7])) : Calls Try.prog 14 #[.slice A 3 c] w fun e w' =>
    ∃ b o c, e = .returned (.tuple #[.slice (some ⟨b, o, none⟩) 1 c, .bool true]) ∧ w'.cell? ⟨b, o, none⟩ = some (.int .u8 7) ∧ b < w'.heap.size ∧ 1 ≤ c ∧ Below w.heap.size w w' :=
  (open_yes A 3 c _ w hr (by omega) opens_seven).mono fun e w' ⟨A', c', he, ho, hb⟩ => by
    have hr' : Bytes w' A' 1 c' [7] := IntRow.of_own ho wf_seven
    obtain ⟨b, o, rfl, hlt, hc⟩ := hr'.cell (by omega)
    exact ⟨b, o, c', he, hc 0 (by omega), hlt, hr'.cap_le, hb⟩
theorem nine_sum (w : World) : Calls Try.prog 9 #[.slice (some ⟨w.heap.size, 0, none⟩) 9 9] (w.alloc (.cells #[.int .u8 49, .int .u8 50, .int .u8 51, .int .u8 52, .int .u8 53, .int .u8 54, .int .u8 55, .int .u8 56, .int .u8 57] 5 (9, 10)))
    fun e w' => e = .returned (.int .u16 10673) ∧ w.alloc (.cells #[.int .u8 49, .int .u8 50, .int .u8 51, .int .u8 52, .int .u8 53, .int .u8 54, .int .u8 55, .int .u8 56, .int .u8 57] 5 (9, 10)) = w' :=
  (sum_any _ 9 9 _ _ (IntRow.laid_fr w 5 _ _ 9 (9, 10) rfl (by simp [maxLen]) wf_nine)).mono fun e w' ⟨he, hw⟩ => ⟨by rw [he, sum_nine], hw⟩
theorem alive_yes (w : World) : Calls Try.prog 8 #[] w fun e w' => e = .returned (.bool true) ∧ Below w.heap.size w w' := by
  have kc := fun (w : World) (C : Array Value) (n c : Nat) => Lib.run_convert_bytes_const (P := Try.prog) w 22 5 C n c Try.underlying22 Try.underlying5
  go_enter Try.func8, Try.ntmps8
  go_wp2_with (first
    | (go_at_call 13; refine (seven_back _).mono ?_; rintro e w1 ⟨A1, c1, rfl, ho1, hb1⟩)
    | (go_at_call 14; refine (open_back _ _ _ ho1).mono ?_; rintro e w2 ⟨b2, o2, c2, rfl, hc2, hlt2, hl2, hb2⟩)
    | (go_at_call 9; refine (nine_sum _).mono ?_; rintro e w3 ⟨rfl, rfl⟩))
  go_ret
  exact ⟨rfl, (hb1.trans (hb2.mono hb1.size)).alloc (Nat.le_trans hb1.size hb2.size) _⟩
/-- A number of 16 bits as a sum. -/
theorem as_sum {x : Int} (h : F16 x) : ∃ s : BitVec 16, x = (s.toNat : Int) := by
  obtain ⟨h1, h2⟩ := h
  obtain ⟨X, rfl⟩ := Int.eq_ofNat_of_zero_le h1
  exact ⟨BitVec.ofNat 16 X, by rw [BitVec.toNat_ofNat]; omega⟩
theorem goes_both (a b : List Int) : goes (sumOf a) b = sumOf (a ++ b) := by unfold sumOf; rw [goes_append]
end Go.Proofs.Ytoammdlinpjbeaa
