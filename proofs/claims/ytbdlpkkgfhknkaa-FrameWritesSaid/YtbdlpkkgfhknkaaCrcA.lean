/- What the calls of package crc answer. -/
import Derived.Test.YtbdlpkkgfhknkaaProg
import Derived.Test.YtbdlpkkgfhknkaaLawKit
import Derived.Test.YtbdlpkkgfhknkaaCrcM
import Derived.LoopTactic
import Derived.Outline
namespace Go.Proofs.Ytbdlpkkgfhknkaa
open Go.RowKit

theorem behind_any (s : BitVec 16) (z : Int) (w : World) (hz : F8 z) :
    Calls Try.prog 44 #[.int .u16 (s.toNat : Int), .int .u8 z] w fun e w' => e = .returned (.int .u16 ((beh s z).toNat : Int)) ∧ w = w' := by
  obtain ⟨z1, z2⟩ := hz
  have hs := s.isLt
  obtain ⟨X, hX⟩ : ∃ X : Int, (s.toNat : Int) = X := ⟨_, rfl⟩
  have x1 : 0 ≤ X := by omega
  have x2 : X ≤ 65535 := by omega
  rw [hX]
  have HX := Lib.hid hX
  clear hX hs
  go_enter Try.func44, Try.ntmps44
  go_wp2
  go_loop [0, 11] (fun v i => ∃ k : Nat, k ≤ 8 ∧ i = .int .i64 k ∧ v = .int .u16 ((stps k (s ^^^ bz z <<< 8)).toNat : Int)) (fun _ i => 8 - (intOf i).toNat)
  case atStart => exact ⟨0, Nat.zero_le _, rfl, by rw [← HX.out, xor_byte s z1 z2]; rfl⟩
  case round =>
    clear HX x1 x2
    obtain ⟨k, hk, rfl, rfl⟩ := hrel
    have hs := (stps k (s ^^^ bz z <<< 8)).isLt
    by_cases hlt : k < 8
    · have HR : Hid (stps (k + 1) (s ^^^ bz z <<< 8) = stp (stps k (s ^^^ bz z <<< 8))) := Lib.hid rfl
      cases hm : (stps k (s ^^^ bz z <<< 8)).msb
      · have h1 := msb_no hm
        have HS := Lib.hid (stp_no hm)
        obtain ⟨T, hT⟩ : ∃ T, stps k (s ^^^ bz z <<< 8) = T := ⟨_, rfl⟩
        rw [hT] at HS HR h1 hs ⊢
        have h2 : ((T.toNat : Int) / 32768 == 1) = false := by rw [h1]; rfl
        clear hm hT h1
        go_wp2
        go_round
        case rel => exact ⟨k + 1, by omega, by go_num, by rw [HR.out, HS.out, wrap_u16]⟩
        case measure => simp [intOf]; omega
      · have h1 := msb_yes hm
        have HS := Lib.hid (stp_yes hm)
        obtain ⟨T, hT⟩ : ∃ T, stps k (s ^^^ bz z <<< 8) = T := ⟨_, rfl⟩
        rw [hT] at HS HR h1 hs ⊢
        have h2 : ((T.toNat : Int) / 32768 == 1) = true := by rw [h1]; rfl
        clear hm hT h1
        go_wp2
        go_round
        case rel => exact ⟨k + 1, by omega, by go_num, by rw [HR.out, HS.out, wrap_u16]⟩
        case measure => simp [intOf]; omega
    · obtain rfl : k = 8 := by omega
      have HE : Hid (beh s z = stps 8 (s ^^^ bz z <<< 8)) := Lib.hid rfl
      go_wp2
      go_ret
      exact ⟨ret_int (by rw [HE.out]), rfl⟩

/-- Bytes at a slice: what a call reads. -/
abbrev Bytes (w : World) (A : Option Addr) (n c : Nat) (zs : List Int) : Prop := IntRow w .u8 A n c zs

theorem goes_any (s : BitVec 16) (A : Option Addr) (n c : Nat) (zs : List Int) (w : World) (hr : Bytes w A n c zs) :
    Calls Try.prog 42 #[.int .u16 (s.toNat : Int), .slice A n c] w fun e w' => e = .returned (.int .u16 ((goes s zs).toNat : Int)) ∧ w = w' := by
  have hmx := hr.max
  have hcap := hr.cap_le
  unfold maxLen at hmx
  have HC := Lib.hid hr.cell
  have HL := Lib.hid hr.len_eq
  have HZ := Lib.hid (range_u8 hr.wf)
  clear hr
  go_enter Try.func42, Try.ntmps42
  go_wp2
  go_loop [0, 9] (fun v i => ∃ k : Nat, k ≤ n ∧ i = .int .i64 k ∧ v = .int .u16 ((goes s (zs.take k)).toNat : Int)) (fun _ i => n - (intOf i).toNat)
  case atStart => exact ⟨0, Nat.zero_le _, rfl, rfl⟩
  case round =>
    obtain ⟨k, hk, rfl, rfl⟩ := hrel
    by_cases hlt : k < n
    · obtain ⟨b, off, rfl, hb, hc⟩ := HC.out (by omega)
      have hck := hc k hlt
      have HS := Lib.hid (goes_take s zs k (by have := HL.out; omega))
      obtain ⟨z1, z2⟩ := HZ.out k
      obtain ⟨Z, hZ⟩ : ∃ Z, zs[k]?.getD 0 = Z := ⟨_, rfl⟩
      obtain ⟨T, hT⟩ : ∃ T, goes s (zs.take k) = T := ⟨_, rfl⟩
      rw [hT, hZ] at HS
      rw [hT]
      have e : zs.getD k 0 = Z := by rw [← hZ]; simp
      rw [hZ] at z1 z2
      rw [e] at hck
      have f8 : F8 Z := ⟨z1, z2⟩
      clear hc hZ hT e
      go_wp2_with (go_at_call 44; (with_reducible refine (behind_any T Z _ f8).mono ?_); rintro e w' ⟨rfl, rfl⟩)
      go_round
      case rel => exact ⟨k + 1, by omega, by go_num, by rw [HS.out]⟩
      case measure => simp [intOf]; omega
    · have HE : Hid (zs.take k = zs) := Lib.hid (List.take_of_length_le (by have := HL.out; omega))
      go_wp2
      go_ret
      exact ⟨ret_int (by rw [HE.out]), rfl⟩
end Go.Proofs.Ytbdlpkkgfhknkaa
