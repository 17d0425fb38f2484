/- What the document's own reckoning of a sum answers. -/
import Derived.Test.YtbdlpkkgfhknkaaCrcA
namespace Go.Proofs.Ytbdlpkkgfhknkaa
open Go.RowKit

theorem rgoes_any (s : BitVec 16) (A : Option Addr) (n c : Nat) (zs : List Int) (w : World) (hr : Bytes w A n c zs) :
    Calls Try.prog 36 #[.int .u16 (s.toNat : Int), .slice A n c] w fun e w' => e = .returned (.int .u16 ((goes s zs).toNat : Int)) ∧ w = w' := by
  have hmx := hr.max
  have hcap := hr.cap_le
  unfold maxLen at hmx
  have hs := s.isLt
  have HC := Lib.hid hr.cell
  have HL := Lib.hid hr.len_eq
  have HZ := Lib.hid (range_u8 hr.wf)
  clear hr
  go_enter Try.func36, Try.ntmps36
  go_wp2
  go_loop [5, 15] (fun v i => ∃ k : Nat, k ≤ n ∧ i = .int .i64 k ∧ v = .int .i64 ((goes s (zs.take k)).toNat : Int)) (fun _ i => n - (intOf i).toNat)
  case atStart => exact ⟨0, Nat.zero_le _, rfl, rfl⟩
  case round =>
    obtain ⟨k, hk, rfl, rfl⟩ := hrel
    clear hs
    have hs := (goes s (zs.take k)).isLt
    by_cases hlt : k < n
    · obtain ⟨b, off, rfl, hb, hc⟩ := HC.out (by omega)
      have hck := hc k hlt
      have HS := Lib.hid (goes_take s zs k (by have := HL.out; omega))
      obtain ⟨z1, z2⟩ := HZ.out k
      obtain ⟨Z, hZ⟩ : ∃ Z, zs[k]?.getD 0 = Z := ⟨_, rfl⟩
      obtain ⟨T, hT⟩ : ∃ T, goes s (zs.take k) = T := ⟨_, rfl⟩
      rw [hT, hZ] at HS
      rw [hT] at hs ⊢
      have e : zs.getD k 0 = Z := by rw [← hZ]; simp
      rw [hZ] at z1 z2
      rw [e] at hck
      clear hc hZ hT e
      go_wp2
      go_loop [5, 8] (fun v i => ∃ j : Nat, j ≤ 8 ∧ i = .int .i64 (7 - (j : Int)) ∧ v = .int .i64 ((rst T Z j).toNat : Int)) (fun _ i => (intOf i + 1).toNat)
      case atStart => exact ⟨0, Nat.zero_le _, rfl, by rw [rst_zero]⟩
      case round =>
        obtain ⟨j, hj, rfl, rfl⟩ := hrel
        clear hs
        have hs := (rst T Z j).isLt
        by_cases hjt : j < 8
        · have hbit : (((rst T Z j).toNat : Int) / 32768 != bits .and .i64 (Z / 2 ^ (7 - j)) 1) = ((rst T Z j).msb != (bz Z <<< (8 + j)).msb) := by
            rw [msb_int, bit_met z1 z2 hjt, bits_differ]
          cases hm : ((rst T Z j).msb != (bz Z <<< (8 + j)).msb)
          · have HR := Lib.hid (rst_no hm)
            rw [hm] at hbit
            clear hm
            obtain ⟨Y, hY⟩ : ∃ Y : Int, ((rst T Z j).toNat : Int) = Y := ⟨_, rfl⟩
            have y1 : 0 ≤ Y := by omega
            have y2 : Y ≤ 65535 := by omega
            rw [hY] at HR hbit ⊢
            clear hY hs
            go_wp2
            go_round
            case rel => exact ⟨j + 1, by omega, by go_num, by rw [HR.out]⟩
            case measure => simp [intOf]; omega
          · have HR := Lib.hid (rst_yes hm)
            rw [hm] at hbit
            clear hm
            obtain ⟨Y, hY⟩ : ∃ Y : Int, ((rst T Z j).toNat : Int) = Y := ⟨_, rfl⟩
            have y1 : 0 ≤ Y := by omega
            have y2 : Y ≤ 65535 := by omega
            rw [hY] at HR hbit ⊢
            clear hY hs
            go_wp2
            go_round
            case rel => exact ⟨j + 1, by omega, by go_num, by rw [HR.out]⟩
            case measure => simp [intOf]; omega
        · obtain rfl : j = 8 := by omega
          go_wp2
          go_round
          case rel => exact ⟨k + 1, by omega, by go_num, by rw [HS.out, rst_last]⟩
          case measure => simp [intOf]; omega
    · have HE : Hid (zs.take k = zs) := Lib.hid (List.take_of_length_le (by have := HL.out; omega))
      go_wp2
      go_ret
      exact ⟨ret_int (by rw [HE.out]), rfl⟩
end Go.Proofs.Ytbdlpkkgfhknkaa
