/- What Div64 of the library answers, where the divisor is above the high part; without conditions beyond that. -/
import Derived.Test.YtgmeakcfiaopcaaGreatBunM
namespace Go.Proofs.YtgmeakcfiaopcaaGreat
open Go.RowKit
set_option maxHeartbeats 4000000 in
theorem div64_any (h l y : Int) (w : World) (h0 : 0 ≤ h) (hy : h < y) (hy' : y ≤ 18446744073709551615) (l0 : 0 ≤ l) (l1 : l ≤ 18446744073709551615) :
    Calls Tryz.prog 109 #[.int .u64 h, .int .u64 l, .int .u64 y] w fun e w' => e = .returned (.tuple #[.int .u64 ((h * 18446744073709551616 + l) / y), .int .u64 ((h * 18446744073709551616 + l) % y)]) ∧ ∃ n, w' = w.drewN n := by
  by_cases c : h = 0
  · subst c
    go_enter Tryz.func109, Tryz.ntmps109
    go_wp2
    go_quiet (fail)
    go_wp2
    go_ret2
    exact ⟨ret_ii (by rw [Int.zero_mul, Int.zero_add]) (by rw [Int.zero_mul, Int.zero_add]), ⟨_, rfl⟩⟩
  · obtain ⟨s, s1, s2, s3, s4⟩ := lead_bits y (by omega) hy'
    have H := Lib.hid s2
    clear s2
    have mp : (0 : Int) < 2 ^ s := Int.pow_pos (by decide)
    have hm1 : h * 2 ^ s < y * 2 ^ s := Int.mul_lt_mul_of_pos_right hy mp
    have hm0 : 0 ≤ h * 2 ^ s := Int.mul_nonneg h0 (by omega)
    have hor := or_parts h l s s1 h0 (by omega) l0 l1
    have hsh := shl_parts l s s1
    have hF0 : 0 ≤ l / 2 ^ (64 - s) := Int.ediv_nonneg l0 (Int.le_of_lt (Int.pow_pos (by decide)))
    have huY : h * 2 ^ s + l / 2 ^ (64 - s) < y * 2 ^ s := by
      have e : (y - h) * 2 ^ s = y * 2 ^ s - h * 2 ^ s := by grind
      have e2 : 1 * 2 ^ s ≤ (y - h) * 2 ^ s := Int.mul_le_mul_of_nonneg_right (by omega) (by omega)
      have e3 : l / 2 ^ (64 - s) < 2 ^ s := by
        apply Int.ediv_lt_of_lt_mul (Int.pow_pos (by decide))
        have : (2 : Int) ^ s * 2 ^ (64 - s) = 18446744073709551616 := by rw [← Int.pow_add, show s + (64 - s) = 64 by omega]; rfl
        omega
      omega
    obtain ⟨Y, hY⟩ : ∃ Y, y * 2 ^ s = Y := ⟨_, rfl⟩
    obtain ⟨E, hE⟩ : ∃ E, h * 2 ^ s = E := ⟨_, rfl⟩
    obtain ⟨F, hF⟩ : ∃ F, l / 2 ^ (64 - s) = F := ⟨_, rfl⟩
    obtain ⟨L, hL⟩ : ∃ L, IntKind.u64.wrap (l * 2 ^ s) = L := ⟨_, rfl⟩
    have hLb : 0 ≤ L ∧ L ≤ 18446744073709551615 := by rw [← hL, wrap_u64]; omega
    have hYand : bits .and .u64 Y 4294967295 = Y % 4294967296 := and32 Y (by omega) (by omega)
    have hLand : bits .and .u64 L 4294967295 = L % 4294967296 := and32 L (by omega) (by omega)
    rw [hE, hF] at hor
    rw [hY] at s3 s4 hm1 huY
    rw [hE] at hm1 hm0 huY
    rw [hF] at hF0 huY
    rw [hL, hF] at hsh
    obtain ⟨a, ha⟩ : ∃ a, Y / 4294967296 = a := ⟨_, rfl⟩
    obtain ⟨b, hb⟩ : ∃ b, Y % 4294967296 = b := ⟨_, rfl⟩
    obtain ⟨v1, hv1⟩ : ∃ v1, L / 4294967296 = v1 := ⟨_, rfl⟩
    obtain ⟨v0, hv0⟩ : ∃ v0, L % 4294967296 = v0 := ⟨_, rfl⟩
    obtain ⟨u, hu⟩ : ∃ u, E + F = u := ⟨_, rfl⟩
    rw [hb] at hYand
    rw [hv0] at hLand
    rw [hu] at hor huY
    have hd : KDiv Y a b := by unfold KDiv; omega
    have hL2 : L = v1 * 4294967296 + v0 := by omega
    have hv1b : 0 ≤ v1 ∧ v1 ≤ 4294967295 := by omega
    have hv0b : 0 ≤ v0 ∧ v0 ≤ 4294967295 := by omega
    have hu0 : 0 ≤ u := by omega
    obtain ⟨hv10, hv11⟩ := hv1b
    obtain ⟨hv00, hv01⟩ := hv0b
    have K0 := k_start hd hu0 huY hv10 hv11
    have D := Lib.hid hd
    obtain ⟨hd1, hd2, hd3, hd4, hd5⟩ := hd
    have HB : Hid (l * 2 ^ s = F * 18446744073709551616 + L ∧ L = v1 * 4294967296 + v0 ∧ u = h * 2 ^ s + F) := Lib.hid ⟨hsh, hL2, by rw [hE]; exact hu.symm⟩
    have K1 := K0
    unfold KInv at K1
    obtain ⟨k1, k2, k3, k4, k5, k6, k7⟩ := K1
    have k8 : 0 ≤ u / a * a := Int.mul_nonneg (by omega) (by omega)
    have hR0 := Int.emod_nonneg (u * 4294967296 + v1) (show Y ≠ 0 by omega)
    have hR1 := Int.emod_lt_of_pos (u * 4294967296 + v1) (show 0 < Y by omega)
    have hRw := k_rest (u := u) (v := v1) (show 0 < Y by omega) s4
    obtain ⟨Q, hQ⟩ : ∃ Q, Q = (u * 4294967296 + v1) / Y := ⟨_, rfl⟩
    obtain ⟨R, hR⟩ : ∃ R, R = (u * 4294967296 + v1) % Y := ⟨_, rfl⟩
    rw [← hQ, ← hR] at hRw
    rw [← hQ] at K0 k2 k3
    rw [← hR] at hR0 hR1
    have K2 := k_start D.out hR0 hR1 hv00 hv01
    have K3 := K2
    unfold KInv at K3
    obtain ⟨j1, j2, j3, j4, j5, j6, j7⟩ := K3
    have j8 : 0 ≤ R / a * a := Int.mul_nonneg (by omega) (by omega)
    have hRw2 := k_rest (u := R) (v := v0) (show 0 < Y by omega) s4
    have hR20 := Int.emod_nonneg (R * 4294967296 + v0) (show Y ≠ 0 by omega)
    have hR21 := Int.emod_lt_of_pos (R * 4294967296 + v0) (show 0 < Y by omega)
    obtain ⟨T, hT⟩ : ∃ T, T = (R * 4294967296 + v0) / Y := ⟨_, rfl⟩
    obtain ⟨R2, hR2⟩ : ∃ R2, R2 = (R * 4294967296 + v0) % Y := ⟨_, rfl⟩
    rw [← hT, ← hR2] at hRw2
    rw [← hT] at K2 j2 j3
    rw [← hR2] at hR20 hR21
    have KB := Lib.hid (k_back (h := h) (l := l) mp hY.symm (show 0 < y by omega) HB.out.1 HB.out.2.1 HB.out.2.2 hQ hR hT hR2)
    have HQ := Lib.hid hQ
    have HT := Lib.hid hT
    clear hd1 hL2 hsh HB k1 k4 k5 j1 j4 j5 hQ hR hT hR2
    clear hb hv0 hu
    go_enter Tryz.func109, Tryz.ntmps109
    go_wp2_with (go_at_call 111; refine (lead_any _ _ (by omega) hy' s s1 H.out).mono ?_; rintro e w' ⟨rfl, rfl⟩)
    go_loop [15, 16] (fun q r => ∃ qi ri : Int, KInv u a Q qi ri ∧ q = .int .u64 qi ∧ r = .int .u64 ri) (fun q _ => (intOf q).toNat)
    case atStart => exact ⟨_, _, K0, rfl, rfl⟩
    case round =>
      obtain ⟨q, r, hk, rfl, rfl⟩ := hrel
      have kk := hk
      unfold KInv at kk
      obtain ⟨x1, x2, x3, x4, x5, x6, x7⟩ := kk
      clear x1
      have hkQ := hk
      rw [HQ.out] at hkQ
      by_cases over : 4294967296 ≤ q ∨ 4294967296 * r + v1 < q * b
      · have ho := k_over D.out hu0 huY hv10 hv11 hkQ over
        have ho2 := ho
        rw [← HQ.out] at ho2
        by_cases br : r + a ≤ 4294967295
        · have hs := k_step hk ho2 (by omega) br
          by_cases c1 : 4294967296 ≤ q
          · clear over ho hkQ
            go_wp2
            go_round
            case rel => exact ⟨_, _, hs, rfl, rfl⟩
            case measure => simp [intOf]; omega
          · have c2 : 4294967296 * r + v1 < q * b := by omega
            obtain ⟨c3, c4⟩ := mul32 q b (by omega) (by omega) hd4 hd5
            clear over ho hkQ
            go_wp2
            go_round
            case rel => exact ⟨_, _, hs, rfl, rfl⟩
            case measure => simp [intOf]; omega
        · have hq := k_break D.out hu0 huY hv10 hv11 hkQ ho (by omega)
          rw [← HQ.out] at hq
          by_cases c1 : 4294967296 ≤ q
          · clear over ho hkQ hk
            go_wp2
            go_loop [18, 16] (fun q r => ∃ qi ri : Int, KInv R a T qi ri ∧ q = .int .u64 qi ∧ r = .int .u64 ri) (fun q _ => (intOf q).toNat)
            case atStart => exact ⟨_, _, K2, rfl, rfl⟩
            case round =>
              obtain ⟨q2, r2, hk2, rfl, rfl⟩ := hrel
              have kk := hk2
              unfold KInv at kk
              obtain ⟨x1, x2, x3, x4, x5, x6, x7⟩ := kk
              clear x1
              have hkQ := hk2
              rw [HT.out] at hkQ
              by_cases over : 4294967296 ≤ q2 ∨ 4294967296 * r2 + v0 < q2 * b
              · have ho := k_over D.out hR0 hR1 hv00 hv01 hkQ over
                have ho2 := ho
                rw [← HT.out] at ho2
                by_cases br : r2 + a ≤ 4294967295
                · have hs := k_step hk2 ho2 (by omega) br
                  by_cases c1 : 4294967296 ≤ q2
                  · clear over ho hkQ
                    go_wp2
                    go_round
                    case rel => exact ⟨_, _, hs, rfl, rfl⟩
                    case measure => simp [intOf]; omega
                  · have c2 : 4294967296 * r2 + v0 < q2 * b := by omega
                    obtain ⟨c3, c4⟩ := mul32 q2 b (by omega) (by omega) hd4 hd5
                    clear over ho hkQ
                    go_wp2
                    go_round
                    case rel => exact ⟨_, _, hs, rfl, rfl⟩
                    case measure => simp [intOf]; omega
                · have hq := k_break D.out hR0 hR1 hv00 hv01 hkQ ho (by omega)
                  rw [← HT.out] at hq
                  by_cases c1 : 4294967296 ≤ q2
                  · clear over ho hkQ hk2
                    go_wp2
                    go_ret2
                    exact ⟨ret_ii KB.out.1 KB.out.2, ⟨0, rfl⟩⟩
                  · have c2 : 4294967296 * r2 + v0 < q2 * b := by omega
                    obtain ⟨c3, c4⟩ := mul32 q2 b (by omega) (by omega) hd4 hd5
                    clear over ho hkQ hk2
                    go_wp2
                    go_ret2
                    exact ⟨ret_ii KB.out.1 KB.out.2, ⟨0, rfl⟩⟩
              · have hq := k_stop D.out hR0 hR1 hv00 hv01 hkQ (by omega)
                rw [← HT.out] at hq
                obtain ⟨c3, c4⟩ := mul32 q2 b (by omega) (by omega) hd4 hd5
                have c5 : q2 * b ≤ 4294967296 * r2 + v0 := by omega
                have c6 : q2 < 4294967296 := by omega
                clear over hkQ hk2
                subst q2
                go_wp2
                go_ret2
                exact ⟨ret_ii KB.out.1 KB.out.2, ⟨0, rfl⟩⟩
          · have c2 : 4294967296 * r + v1 < q * b := by omega
            obtain ⟨c3, c4⟩ := mul32 q b (by omega) (by omega) hd4 hd5
            clear over ho hkQ hk
            go_wp2
            go_loop [18, 16] (fun q r => ∃ qi ri : Int, KInv R a T qi ri ∧ q = .int .u64 qi ∧ r = .int .u64 ri) (fun q _ => (intOf q).toNat)
            case atStart => exact ⟨_, _, K2, rfl, rfl⟩
            case round =>
              obtain ⟨q2, r2, hk2, rfl, rfl⟩ := hrel
              have kk := hk2
              unfold KInv at kk
              obtain ⟨x1, x2, x3, x4, x5, x6, x7⟩ := kk
              clear x1
              have hkQ := hk2
              rw [HT.out] at hkQ
              by_cases over : 4294967296 ≤ q2 ∨ 4294967296 * r2 + v0 < q2 * b
              · have ho := k_over D.out hR0 hR1 hv00 hv01 hkQ over
                have ho2 := ho
                rw [← HT.out] at ho2
                by_cases br : r2 + a ≤ 4294967295
                · have hs := k_step hk2 ho2 (by omega) br
                  by_cases c1 : 4294967296 ≤ q2
                  · clear over ho hkQ
                    go_wp2
                    go_round
                    case rel => exact ⟨_, _, hs, rfl, rfl⟩
                    case measure => simp [intOf]; omega
                  · have c2 : 4294967296 * r2 + v0 < q2 * b := by omega
                    obtain ⟨c3, c4⟩ := mul32 q2 b (by omega) (by omega) hd4 hd5
                    clear over ho hkQ
                    go_wp2
                    go_round
                    case rel => exact ⟨_, _, hs, rfl, rfl⟩
                    case measure => simp [intOf]; omega
                · have hq := k_break D.out hR0 hR1 hv00 hv01 hkQ ho (by omega)
                  rw [← HT.out] at hq
                  by_cases c1 : 4294967296 ≤ q2
                  · clear over ho hkQ hk2
                    go_wp2
                    go_ret2
                    exact ⟨ret_ii KB.out.1 KB.out.2, ⟨0, rfl⟩⟩
                  · have c2 : 4294967296 * r2 + v0 < q2 * b := by omega
                    obtain ⟨c3, c4⟩ := mul32 q2 b (by omega) (by omega) hd4 hd5
                    clear over ho hkQ hk2
                    go_wp2
                    go_ret2
                    exact ⟨ret_ii KB.out.1 KB.out.2, ⟨0, rfl⟩⟩
              · have hq := k_stop D.out hR0 hR1 hv00 hv01 hkQ (by omega)
                rw [← HT.out] at hq
                obtain ⟨c3, c4⟩ := mul32 q2 b (by omega) (by omega) hd4 hd5
                have c5 : q2 * b ≤ 4294967296 * r2 + v0 := by omega
                have c6 : q2 < 4294967296 := by omega
                clear over hkQ hk2
                subst q2
                go_wp2
                go_ret2
                exact ⟨ret_ii KB.out.1 KB.out.2, ⟨0, rfl⟩⟩
      · have hq := k_stop D.out hu0 huY hv10 hv11 hkQ (by omega)
        rw [← HQ.out] at hq
        obtain ⟨c3, c4⟩ := mul32 q b (by omega) (by omega) hd4 hd5
        have c5 : q * b ≤ 4294967296 * r + v1 := by omega
        have c6 : q < 4294967296 := by omega
        clear over hkQ hk
        subst q
        go_wp2
        go_loop [18, 16] (fun q r => ∃ qi ri : Int, KInv R a T qi ri ∧ q = .int .u64 qi ∧ r = .int .u64 ri) (fun q _ => (intOf q).toNat)
        case atStart => exact ⟨_, _, K2, rfl, rfl⟩
        case round =>
          obtain ⟨q2, r2, hk2, rfl, rfl⟩ := hrel
          have kk := hk2
          unfold KInv at kk
          obtain ⟨x1, x2, x3, x4, x5, x6, x7⟩ := kk
          clear x1
          have hkQ := hk2
          rw [HT.out] at hkQ
          by_cases over : 4294967296 ≤ q2 ∨ 4294967296 * r2 + v0 < q2 * b
          · have ho := k_over D.out hR0 hR1 hv00 hv01 hkQ over
            have ho2 := ho
            rw [← HT.out] at ho2
            by_cases br : r2 + a ≤ 4294967295
            · have hs := k_step hk2 ho2 (by omega) br
              by_cases c1 : 4294967296 ≤ q2
              · clear over ho hkQ
                go_wp2
                go_round
                case rel => exact ⟨_, _, hs, rfl, rfl⟩
                case measure => simp [intOf]; omega
              · have c2 : 4294967296 * r2 + v0 < q2 * b := by omega
                obtain ⟨c3, c4⟩ := mul32 q2 b (by omega) (by omega) hd4 hd5
                clear over ho hkQ
                go_wp2
                go_round
                case rel => exact ⟨_, _, hs, rfl, rfl⟩
                case measure => simp [intOf]; omega
            · have hq := k_break D.out hR0 hR1 hv00 hv01 hkQ ho (by omega)
              rw [← HT.out] at hq
              by_cases c1 : 4294967296 ≤ q2
              · clear over ho hkQ hk2
                go_wp2
                go_ret2
                exact ⟨ret_ii KB.out.1 KB.out.2, ⟨0, rfl⟩⟩
              · have c2 : 4294967296 * r2 + v0 < q2 * b := by omega
                obtain ⟨c3, c4⟩ := mul32 q2 b (by omega) (by omega) hd4 hd5
                clear over ho hkQ hk2
                go_wp2
                go_ret2
                exact ⟨ret_ii KB.out.1 KB.out.2, ⟨0, rfl⟩⟩
          · have hq := k_stop D.out hR0 hR1 hv00 hv01 hkQ (by omega)
            rw [← HT.out] at hq
            obtain ⟨c3, c4⟩ := mul32 q2 b (by omega) (by omega) hd4 hd5
            have c5 : q2 * b ≤ 4294967296 * r2 + v0 := by omega
            have c6 : q2 < 4294967296 := by omega
            clear over hkQ hk2
            subst q2
            go_wp2
            go_ret2
            exact ⟨ret_ii KB.out.1 KB.out.2, ⟨0, rfl⟩⟩
end Go.Proofs.YtgmeakcfiaopcaaGreat
