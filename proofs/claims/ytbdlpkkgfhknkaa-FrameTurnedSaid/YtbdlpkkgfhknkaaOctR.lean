/- What the document's Get answers. -/
import Derived.Test.YtbdlpkkgfhknkaaOctB
import Derived.LoopTactic
namespace Go.Proofs.Ytbdlpkkgfhknkaa
open Go.RowKit

set_option maxHeartbeats 1000000 in
theorem get_any (A : Option Addr) (n c : Nat) (zs : List Int) (w : World) (hr : IntRow w .u8 A n c zs) (hn : n ≤ 8) :
    Calls Try.prog 35 #[.slice A n c] w fun e w' => e = .returned (.int .u64 (getB zs)) ∧ w = w' := by
  have HR := Lib.hid hr
  have hl := Lib.hid hr.len_eq
  clear hr
  go_enter Try.func35, Try.ntmps35
  go_wp2
  go_loop [3, 8] (fun s i => ∃ j : Nat, j ≤ n ∧ i = .int .i64 j ∧ s = .int .u64 (getB (zs.take j))) (fun _ i => n - (intOf i).toNat)
  case atStart => exact ⟨0, Nat.zero_le _, rfl, rfl⟩
  case round =>
    obtain ⟨j, hj, rfl, rfl⟩ := hrel
    by_cases hlt : j < n
    · obtain ⟨b, off, rfl, hb, hc⟩ := HR.out.cell (by omega)
      have hN := get_lt7 (zs.take j) (fun z hz => f8s HR.out.wf z (List.mem_of_mem_take hz)) (by rw [List.length_take]; omega)
      have hnext := get_take zs j (by rw [hl.out]; omega)
      obtain ⟨N, hNe⟩ : ∃ N, getB (zs.take j) = N := ⟨_, rfl⟩
      rw [hNe] at hN hnext
      obtain ⟨n1, n2⟩ := hN
      have q0 := hc j hlt
      rw [List.getD_eq_getElem?_getD] at q0
      obtain ⟨X, hX⟩ : ∃ X, zs[j]?.getD 0 = X := ⟨_, rfl⟩
      obtain ⟨x1, x2⟩ := byte_at HR.out.wf j
      rw [hX] at q0 hnext x1 x2
      have HN := Lib.hid hnext
      rw [hNe]
      clear hnext hX hNe hc
      go_wp2
      go_round
      case rel => exact ⟨j + 1, by omega, by go_num, by rw [HN.out, Int.mul_comm]⟩
      case measure => simp [intOf]; omega
    · obtain rfl : j = n := by omega
      go_wp2
      go_ret
      refine ⟨ret_int ?_, rfl⟩
      rw [List.take_of_length_le (Nat.le_of_eq hl.out)]
end Go.Proofs.Ytbdlpkkgfhknkaa
